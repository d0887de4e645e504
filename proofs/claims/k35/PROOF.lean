import PyProof.Rows.All
import Wide.All
import OpenK.AllK
import Wide.FinOn
import Lean
import PyProof.EqAt
import PyProof.EqKinds
import PyProof.TupleCall
import PyProof.NeKinds
import PyProof.ListRange
import PyProof.Draws
import PyProof.Rows.SortStr
import KE.KDictSum
import KE.KEqDict
import KE.KDictOf
import KE.KRevSl
import PyProof.StrWalks
import PyProof.StrBlock2
import PyProof.SetKind
import PyProof.SetRoads
import PyProof.Rows.SetFrom
import PyProof.ReprRoads
import PyProof.ReprLen
import PyProof.NsDelKeeps
import PyProof.ListMulRoad
import PyProof.FactsAll.tuple_2
import KE.KLam
import KE.KNestM
import PyProof.AttrMissHeap
import PyProof.Rows.SortShell
import PySem.Challenge.RW_figurejudge_k35_signs_at_sums
set_option Elab.async false
set_option linter.all false
set_option maxRecDepth 100000
set_option maxHeartbeats 4000000
open PySem renaming wpAny_bind → AA, wpAny_pure → AH, Shared → AI, mainGlobals → AU, Program → Ak, rawInt → Aq, FuncData → Aw, Around → A9, wpAny_field → BA, starEach → BC, wpAny_setField_rec → BD, wpAny_callSpecial?_slot → BE, mem_of_lookup → BF, wpAny_call_entry → BJ, bootBuiltins → BN, IsPair → BP, wpAny_seqItems → BU, wpAny_newObj_type → BZ, wpAny_holding → Bb, wpAny_mono → Bi, sysModules → Bq, compareOp → Bt, Paired → Bv, wpAny_Call_Name_kw → B0, builtinLookup_eq_fast → CA, wpAny_truthy_bool → CI, codeAny_builtin → CM, plainId_quiet → CO, Arguments → CP, wpAny_isInstance → CQ, binaryOp → CU, wpAny_rule → Ca, pyNext → Ce, wpAny_passesOwn → Cg, NameKind → Cj, wpAny_typeOf → Ck, wpAny_setState_of → Cn, wpAny_attempt → Ct, wpAny_setEntries_of → Cw, wpAny_pyIter_zip → Cz
open PySem renaming codeAmong → C1, wpAny_pyIter_tuple → C8, tupleKind_room_in1 → C', typeLookup_type → DH, ZipApart → DI, wpAny_pyIter_list → DN, wpAny_updateSeq_pair → DW, qualnameIn → DX, wpAny_letOwnedTupleGo_zip → Df, wpAny_onRaise → Dv, wpAny_ite_split → Dy, getattributeRaised → D5, sliceBounds → D7, backTo → D_, codeAny_mono → EA, fits_of_scanBound → EI, isSubtype_stop → EJ, codeAny_call_function → EN, tupleKind → ER, wpAny_execs_cons → ES, assignEach → ET, codeAny → EY, getItem → EZ, sizeLine_eq → Ee, wpAny_execs_nil → Eg, letOwnedTupleGo → Eh, wpAny_specialOf → El, wpAny_updateSeq → Em, scanBound → Ex, wpAny_Name → Ey, wpAny_newFunctionEnv_cells → E1, typeLookup → E4, typeIs_str → E5, call_meets → E6, closureFor → E7, isSubtype_type → E8, firstArgMember → E9, wpAny_fieldsOf → FA, wpAny_newTuple → FD, foldedSetIterable → FL
open PySem renaming wpAny_letGo → FO, IsPart → FT, wpAny_getItem_list_slice → FU, attributeBase → FV, wpAny_comprehension_free → FW, noFill_tuple_add → Fd, wpAny_askSetting → Fh, pickOrder → Fi, builtinsNs → Fq, merged → Fv, pushCells_keeps → GI, GenState → Ga, bindArgs → Gf, subscripted → Gh, Params → Gj, newFunctionEnv → Gn, callType_codes → Gp, swapsWith → Gw, callerA → Gx, valueAt → Gy, seqItems? → Gz, TriplesOk → G0, seq_tuple_add → G_, wpAny_standAt → G', strKind_is → HH, BindsTo → HM, storeSet → HS, setNext → HV, call → Hg
open List renaming length_map → AB, getElem?_eq_some_iff → AF, length_append → AG, map_append → AJ, mem_of_getElem? → AL, mem_singleton → AR, mem_cons_of_mem → AV, getElem?_map → AW, mem_cons_self → AZ, mem_append → Ab, mem_cons → Ac, size_toArray → Ai, getElem?_append_right → Aj, getElem?_append_left → An, length_take → Ao, map_cons → Ap, getElem?_eq_getElem → As, take_length → Ax, forall_mem_cons → Az, mem_map → A1, Nodup → A3, length_cons → A4, getElem?_of_mem → BH, range → BM, append_nil → BS, getD_eq_getElem?_getD → BV, mem_append_right → BW, replicate → BY, take_of_length_le → Bp, length_replicate → Bu, getElem?_cons_succ → B3, nodup_append → B7, length_reverse → B8, nodup_cons → B_, getElem?_eq_none → CC, not_mem_nil → CD, mem_of_mem_take → CH, length_nil → CK, forIn_cons → CL, mem_range → CT
open List renaming getElem?_toArray → Cd, take_add_one → Co, any_cons → Cr, lookup_cons → Cy, getElem_mem → C0, forIn_nil → C5, of_mem_zip → DE, find?_cons → DF, range_succ → DJ, getElem?_reverse → DL, append_assoc → DP, length_range → DQ, mem_reverse → DZ, filterMap_cons → Dh, map_congr_left → Dm, sum_append → D1, map_nil → ED, map_map → EG, reverse_cons → EH, eraseIdx_eq_take_drop_succ → EM, all_eq_true → EU, zipIdx_cons → EW, all_cons → Eb, sum_cons → Ed, zipIdx_nil → Eo, flatMap_append → Es, zipWith → Ew, length_eraseIdx_of_lt → FC, lookup_append → FF, drop_eq_getElem_cons → FI, ext_getElem? → FP, getElem?_take_of_lt → FR, getElem?_replicate → Fc, length_drop → Fe, cons_append → Ff, length_eq_zero_iff → Fj, map_reverse → Fn, getElem?_set_self → Fs, range_succ_eq_map → Fw, all_map → Fx
open List renaming sum_replicate_nat → GA, flatMap_singleton → GB, mem_filter → GD, map_const' → GJ, take_append_drop → GN, length_filter_le → GW, mem_append_left → Gb, getElem?_set_ne → Gd, length → Gg, length_dropLast → Gi, nodup_nil → Gm, drop_zero → Gs, replicate_succ' → Gu, length_flatMap → G7, length_zipWith → G8
open PySem.W renaming Frag → AD, keepIn → AK, nsIn → AQ, fnOf → Aa, codeIn → Af, mg_of → Al, kitOne → A5, mg_none_of → A8, find_K → BL, tabObj → Ba, kia_one → Bn, codeHdIn → B4, codeHd_of_K → B9, envX → CN, CodeHd → DV, cellsFrom_some → EB, methodObj → FJ, instObj → GC, KeysLit → GG, OpenLaw → GH, hideAll_size → GY, hideAll_none → GZ, lookIn → Ge, hideAll_get → G5, of_hideAll → HD, callWith_K → HE, codeRec_of → HF, kitx_list → HK, kitx_dict → HL, plainGet → Hb
open PySem.Heap renaming get?_push_of_some → AE, lt_size → AN, get?_push_size → AO, size_push → Ay, SameBut → B6, get?_update_self → CB, get?_update_other → C_, ExtBut → D9, IsTuple → HZ
open Nat renaming le_refl → AM, lt_of_lt_of_le → AY, ne_of_lt → Ae, lt_of_le_of_lt → A7, le_trans → BB, zero_le → BG, lt_irrefl → BQ, pow_le_pow_right → BR, ne_of_gt → Bo, le_of_lt → Bx, sub_self → Bz, le_succ → B', lt_trans → CG, lt_succ_of_lt → CJ, lt_succ_self → CS, pow_lt_pow_right → Cp, zero_add → DD, pow_succ → Dc, mod_lt → D4, le_add_right → EV, div_lt_self → Ep, log2_le_self → Fp, mul_le_mul → Gq, sub_zero → Ha
open Option.some renaming inj → AS, injEq → HR
open PySem.Paired renaming length → AX
open Or renaming inl → Ad, inr → DK
open Int renaming toNat_natCast → Ag, natCast_ediv → C7, emod_lt_of_pos → DB, natAbs_natCast → DC, natCast_emod → Dd, toNat_of_nonneg → Dk, emod_nonneg → Dz, toNat → EX
open PySem.Builtin.SmallTypes renaming ownedTupleIsFree → Ah, nextOf → A2, ownedTupleHandOut → Bs
open Bool renaming false_ne_true → Am, and_eq_true → Bg, false_eq_true → CY, and_false → EE, eq_iff_iff → Ei, true_or → HP
open PySem.F renaming plainAttrs_list → Au, slot_list_append → A_, type_list_append → A', slot_zip_next → Bj, called_set → B1, slot_tuple_iterator_next → CZ, slot_dict_get → Cc, slot_list_extend → Cu, type_list_extend → Cv, args_zip_next_1 → C6, entry_zip_next → DA, slot_tuple_getattribute → Dg, args_tuple_add_2 → Dr, slot_list_getattribute → Du, entry_tuple_add → D6, args_dict_get_3 → D8, slot_tuple_add → EC, entry_dict_get → EF, plainAttrs_str → EL, args_tuple_iterator_next_1 → En, entry_tuple_iterator_next → Et, args_object_init_3 → FE, slot_dict_getitem → FG, slot_str_getitem → FX, plainAttrs_dict → Fg, plain_list_iadd → Fl, slot_str_index → Fz, typeCall_zip_2 → F_, slot_str_upper → F', type_dict_get → GK, plain_set_new → GL, slot_set_iter → GP, newCall_zip_2 → GR, entry_zip_new → GS, slot_list_pop → GU, type_list_pop → GV, called_zip → HI
open Sum renaming inr → Av, inl → Dx
open PySem.PassesOwn renaming never → A0
open Array renaming length_toList → A6, getElem?_eq_getElem → BX, getElem?_toList → Bd, getElem?_eq_none → EK, getD_eq_getD_getElem? → Eu, size_eq_one_iff → GO, toList → HJ
open PySem.Value renaming ref → BI, none → B5, bool → DS, str → EO, int → Gv, isStrOf_shape → G4, isStrOf → G9, type → HC
open PySem.NameKind renaming free → BK, cell → Ec
open PyProof.Rows renaming callWith_type1 → BO, slot_tuple_getitem → Bc, sortedS → Bm, StrsAre → Cm, envOfC → Dn, subscriptTail → Ea, envOfC → Ej, AllBare → FK, IntsAre → Ft, Subscript_ → Fu, ltCps_eq → GQ, sortedS → HQ
open False renaming elim → Be
open True renaming intro → Bf
open Option renaming map_eq_some_iff → Bh, bind_eq_some_iff → Bl, map_some → Ek, isSome_map → FN, isSome_iff_exists → FQ, none → Gk, bind_eq_bind → G6, some → Hd
open PySem.Builtin.List renaming listExtendWith → Bk, listTooLong → CF, listSameRef → Cs, listLengthHint → DO, listItems → Fy
open PyProof.Rows.F renaming plain_set_update_loop → Br, entry_set_update_loop → Dj
open PySem.SetTable renaming grown → Bw, below → Cb, relaid → Hf
open PySem.Str renaming ofString → By
open PySem.Around renaming under_plainId → B2, frames_deeper → Ef
open PySem.Calls renaming spliced_cons → CV, callWith_builtin → C9, evalArgs_plain → DT, spliced_nil → D', Name_function_global → Ez, call_function_entry → FH
open PySem.SeqAt renaming EqAt → CW, RcAt → Hh
open PySem.Builtin.Slice renaming slicePlaces → Cf, sliceAdjust → De, sliceApplied → E2
open PySem.Unicode renaming upperOf → Ci
open PySem.Builtin.Tuple renaming tupleExact → Cq, tupleItemsOf → E3
open PySem.Builtin.Dict renaming updateFrom → C4, selfAndRest → Fb
open ForInStep renaming yield → DG
open Ne renaming symm → DM
open PySem.Obj renaming mapSeq → DU, putSet → E_
open Nat.succ renaming inj → DY
open PySem.Heap.SameBut renaming update → Di, refl → HY
open PySem.BindsTo renaming of_defaults → Dq
open PySem.Builtin.Str renaming tooLong → Er, occurrences → Fm
open Prod.mk renaming injEq → FY
open PySem.Shared renaming TypeIs → FZ, heap → Gr
open PySem.Heap.DictOf renaming new → GF
open List.Pairwise renaming sublist → GX, nil → HN
open PySem.Txt renaming upper → G3
open PySem.SeqAt.EqAt renaming int_str → HA, str_int → HB, same → He
open PySem.Heap.IsSliceOf renaming new → HG
open String renaming splitOnAux → HU
open PySem.pickOrder renaming go → HW
open PySem.SetTable.below renaming go → HX
open PySem.Moved renaming trans → Hc
open PySem.Walks renaming list → Hi
namespace L2
open PySem PySem.Spec PyProof.Rows
abbrev Key:=Sum Int Str
def mO:Key->Value->Bool
 | .inl k,v=>Value.isInt k v
 | .inr x,v=>G9 x v
def Zf(w:World):Key->Int
 | .inl k=>hashInt k
 | .inr x=>hashStr w x
theorem cC:∀{k:Key} {v:Value},mO k v=true->(∃i t,k=Dx i/\v=Gv i t)∨(∃x t,k=Av x/\v=EO x t)
 | .inl i,v,h=>by
  obtain⟨t,e⟩:=Value.isInt_shape (k:=i) (v:=v) h
  exact .inl ⟨i,t,rfl,e⟩
 | .inr x,v,h=>by
  obtain⟨t,e⟩:=G4 (x:=x) (v:=v) h
  exact .inr ⟨x,t,rfl,e⟩
theorem KD(i:Int)(t:Tok):mO (.inl i) (.int i t)=true:=by simp[mO,Value.isInt]
theorem KG(x:Str)(t:Tok):mO (.inr x) (.str x t)=true:=by simp[mO,G9]
theorem Se(a b:Int):decide ((Dx a:Key)=Dx b)=(a == b):=by
 by_cases e:a=b
 ·subst e;simp
 ·have h:¬(Dx a:Key)=Dx b:=λq=>e (Sum.inl.inj q)
  rw[decide_eq_false h]
  exact(beq_eq_false_iff_ne.mpr e).symm
theorem Sf(a b:Str):decide ((Av a:Key)=Av b)=decide (a=b):=by
 by_cases e:a=b
 ·subst e;simp
 ·have h:¬(Av a:Key)=Av b:=λq=>e (Sum.inr.inj q)
  rw[decide_eq_false h,decide_eq_false e]
theorem Sg(a:Int)(b:Str):decide ((Dx a:Key)=Av b)=false:=decide_eq_false (λq=>nomatch q)
theorem Sh(a:Str)(b:Int):decide ((Av a:Key)=Dx b)=false:=decide_eq_false (λq=>nomatch q)
def aY(prog:Ak)(w:World):PySem.KeyKind prog w Key where
 is:=mO
 hash:=Zf w
 inj:=λv a b ha hb=>by
  rcases cC ha with⟨i,t,rfl,rfl⟩ | ⟨x,t,rfl,rfl⟩
  ·rcases cC hb with⟨j,u,rfl,e⟩ | ⟨y,u,rfl,e⟩
   ·injection e with e1 _;rw[e1]
   ·exact nomatch e
  ·rcases cC hb with⟨j,u,rfl,e⟩ | ⟨y,u,rfl,e⟩
   ·exact nomatch e
   ·injection e with e1 _;rw[e1]
 byValue:=λk v h=>by
  rcases cC h with⟨i,t,rfl,rfl⟩ | ⟨x,t,rfl,rfl⟩<;>rfl
 pyHash:=λhv h=>by
  rcases cC hv with⟨i,t,rfl,rfl⟩ | ⟨x,t,rfl,rfl⟩
  ·exact wpAny_pyHash_int h
  ·exact wpAny_pyHash_str h
 eqBool:=λhu hv h=>by
  rcases cC hu with⟨i,t,rfl,rfl⟩ | ⟨x,t,rfl,rfl⟩
  ·rcases cC hv with⟨j,u,rfl,rfl⟩ | ⟨y,u,rfl,rfl⟩
   ·rw[Se] at h;exact wpAny_eqBool_int h
   ·rw[Sg] at h;exact HA i t y u _ _ _ _ h
  ·rcases cC hv with⟨j,u,rfl,rfl⟩ | ⟨y,u,rfl,rfl⟩
   ·rw[Sh] at h;exact HB x t j u _ _ _ _ h
   ·rw[Sf] at h;exact wpAny_eqBool_str h
 «strs» :=λk x t v h=>by
  rcases cC h with⟨i,u,rfl,e⟩ | ⟨y,u,rfl,e⟩
  ·exact nomatch e
  ·injection e with e1 _
   subst e1
   cases v<;>rfl
theorem Jv(prog:Ak)(w:World)(k:Key)(v:Value):(aY prog w).is k v=mO k v:=rfl
theorem zU(prog:Ak)(w:World)(i:Int)(t:Tok):(aY prog w).is (.inl i) (.int i t)=true:=KD i t
theorem zV(prog:Ak)(w:World)(x:Str)(t:Tok):(aY prog w).is (.inr x) (.str x t)=true:=KG x t
inductive V where
 | non | bl (b:Bool) | int (i:Int) | str (x:Str) | jV (b:Array UInt8) | flt (b:UInt64) | ref (a:Addr) | ty (n:String)
 deriving DecidableEq
def RelV:V->Value->Prop
 | .non,u=>u=B5
 | .bl b,u=>u=DS b
 | .int i,u=>∃t,u=Gv i t
 | .str x,u=>∃t,u=EO x t
 | .jV b,u=>∃t,u=Value.bytes b t
 | .flt b,u=>∃t,u=Value.float b t
 | .ref a,u=>u=BI a
 | .ty n,u=>u=HC n
abbrev Vals:List V->List Value->Prop:=Bv RelV
theorem Vals.length{xs:List V}{us:List Value}(r:Vals xs us):xs.length=us.length:=AX r
theorem Vals.get:∀{xs:List V} {us:List Value} {i:Nat} {x:V},Vals xs us->xs[i]? =some x->∃u,us[i]? =some u/\RelV x u
 | _,_,_,_,.nil,e=>by simp at e
 | _,_,0,_,.cons r _,e=>by simp at e;subst e;exact⟨_,rfl,r⟩
 | _,_,i+1,x,.cons _ t,e=>by
  obtain⟨u,h1,h2⟩:=Vals.get (i:=i) (x:=x) t (by simpa using e)
  exact⟨u,by simpa using h1,h2⟩
theorem Vals.append:∀{xs ys:List V} {us ws:List Value},Vals xs us->Vals ys ws->Vals (xs++ys) (us++ws)
 | _,_,_,_,.nil,s=>s
 | _,_,_,_,.cons r t,s=>.cons r (Vals.append t s)
theorem Vals.take:∀{xs:List V} {us:List Value} (n:Nat),Vals xs us->Vals (xs.take n) (us.take n)
 | _,_,0,_=>.nil
 | _,_,_+1,.nil=>.nil
 | _,_,n+1,.cons r t=>.cons r (Vals.take n t)
theorem Vals.drop:∀{xs:List V} {us:List Value} (n:Nat),Vals xs us->Vals (xs.drop n) (us.drop n)
 | _,_,0,r=>r
 | _,_,_+1,.nil=>.nil
 | _,_,n+1,.cons _ t=>Vals.drop n t
def gq:Option V->Option Value->Prop
 | some v,some u=>RelV v u
 | none,none=>True
 | _,_=>False
def KV{κ:Type}:List (κ×V)->List (κ×Value)->Prop:=Bv λ(p:κ×V) (q:κ×Value)=>p.1=q.1/\RelV p.2 q.2
def kV:Key->V
 | .inl i=>.int i
 | .inr x=>.str x
inductive HO where
 | lst (xs:List V)
 | tup (xs:List V)
 | dK (kvs:List (Key×V)) | dT (kvs:List (List Key×V))
 | set (S:Int->Bool) (n:Nat)
 | ins (C dx:Addr) (fs:List (Str×V))
 | own (x:Addr)
 | xd (fs:List (Str×V))
 | met (f x:Addr)
 | rng (lo hi:Int)
 | jb (o:Obj) (u:HO)
 | gw (ps:Array Value)
 | ext (φ:Heap->Prop)
abbrev Hp:=Addr->Option HO
def upd(H:Hp)(a:Addr)(o:HO):Hp:=λb=>if b=a then some o else H b
theorem af{H:Hp}{a:Addr}{o:HO}:upd H a o a=some o:=by unfold upd;rw[if_pos rfl]
theorem ao{H:Hp}{a b:Addr}{o:HO}(h:b≠a):upd H a o b=H b:=by unfold upd;rw[if_neg h]
theorem fL{H:Hp}{a b:Addr}{o u:HO}(h:H a=some o)(h':H b=some u)(d:o≠u):a≠b:=by
 intro e;subst e;rw[h] at h';exact d (AS h')
theorem ak{H:Hp}{a b:Addr}{o:HO}(h:H a=some o)(h':H b=none):a≠b:=by
 intro e;subst e;rw[h] at h';cases h'
section
variable(P:Ak)(w:World)
def bM(H:Hp)(h:Heap)(a:Addr):HO->Prop
 | .lst xs=>xs.length<=sizeLine/\∃(its:List Value) (n:Nat),Vals xs its/\h.get? a=some {cls:=.type "list",data:=.seq its.toArray n}
 | .tup xs=>(xs.length<=sizeLine/\∃o,h.get? a=some o/\o.dict=none)/\∃its:List Value,Vals xs its/\IsTup h a its.toArray
 | .dK kvs=>kvs.length<=sizeLine/\(a == Bq)=false/\∃vs,KV kvs vs/\h.DictOf (aY P w) a vs
 | .dT kvs=>kvs.length<=sizeLine/\(a == Bq)=false/\∃xs:List (List Key×Addr×Value),
   Bv (λ(p:List Key×V) (q:List Key×Addr×Value)=>p.1=q.1/\H q.2.1=some (.tup (p.1.map kV))/\RelV p.2 q.2.2) kvs xs/\
   ∃o es ep,h.get? a=some o/\o.ExactDict/\o.data=.dict es ep/\es.toList=xs.map (entryOfKey (ER (aY P w)))/\(xs.map (·.1)).Nodup
 | .set S n=>h.SetOf (intKind P w) a S n
 | .ins C dx fs=>H dx=some (.own a)/\fs.length<=1000/\dx≠a/\h.get? a=some (GC C dx)/\
   ∃mA,h.Ns1 dx mA/\(∀f,gq (fs.lookup f) (mA f))/\PySem.Within mA (fs.map (·.1))
 | .own _=>∃o,h.get? a=some o
 | .xd fs=>∃mA,h.Ns1 a mA/\∀f,gq (fs.lookup f) (mA f)
 | .rng lo hi=>∃t u v,h.get? a=some {cls:=.type "range",data:=.fields #[.int lo t,.int hi u,.int 1 v]}
 | .jb o u=>h.get? a=some o/\bM H h a u
 | .gw ps=>h.get? a=some {cls:=.none,data:=.fields ps}
 | .met f x=>h.get? a=some (FJ (.ref f) (.ref x))
 | .ext φ=>φ h/\(∃o,h.get? a=some o)/\∀h1 h2:Heap,φ h1->(∀o,h1.get? a=some o->h2.get? a=some o)->φ h2
def cV(H:Hp)(h:Heap):Prop:=∀a o,H a=some o->bM P w H h a o
end
section
variable{P:Ak}{w:World}{H H':Hp}{h h':Heap}{a:Addr}{o:HO}
theorem bM.lt(x:bM P w H h a o):a<h.objs.size:=by
 cases o with
 | lst xs=>obtain⟨_,_,_,_,e⟩:=x;exact AN e
 | tup xs=>obtain⟨_,_,_,p⟩:=x;exact p.lt
 | dK kvs=>obtain⟨_,_,_,_,o,_,_,e,_⟩:=x;exact AN e
 | dT kvs=>obtain⟨_,_,_,_,o,_,_,e,_⟩:=x;exact AN e
 | set S n=>obtain⟨o,_,_,_,e,_⟩:=x;exact AN e
 | ins C dx fs=>obtain⟨_,_,_,e,_⟩:=x;exact AN e
 | own y=>obtain⟨_,e⟩:=x;exact AN e
 | xd fs=>obtain⟨_,⟨_,_,_,e,_⟩,_⟩:=x;exact AN e
 | rng lo hi=>obtain⟨_,_,_,e⟩:=x;exact AN e
 | jb ob u=>obtain⟨e,_⟩:=x;exact AN e
 | gw ps=>exact AN (show h.get? a=some _ from x)
 | met f y=>exact AN (show h.get? a=some _ from x)
 | ext φ=>obtain⟨_,⟨_,e⟩,_⟩:=x;exact AN e
theorem Paired.mP{α β:Type}{F G:α->β->Prop}:∀{l₁:List α} {l₂:List β},Bv F l₁ l₂->(∀a b,F a b->G a b)->Bv G l₁ l₂
 | _,_,.nil,_=>.nil
 | _,_,.cons r t,f=>.cons (f _ _ r) (Paired.mP t f)
theorem bM.stay(x:bM P w H h a o)(k:∀b u,(b=a∨H b=some (.own a))->h.get? b=some u->h'.get? b=some u)
  (ho:∀b,H b=some (.own a)->H' b=some (.own a)) (ht:∀b xs,H b=some (.tup xs)->H' b=some (.tup xs)):bM P w H' h' a o:=by
 induction o with
 | lst xs=>obtain⟨z,its,n,r,e⟩:=x;exact⟨z,its,n,r,k _ _ (.inl rfl) e⟩
 | tup xs=>obtain⟨⟨z,o2,e2,d2⟩,its,r,ob,e,c⟩:=x;exact⟨⟨z,o2,k _ _ (.inl rfl) e2,d2⟩,its,r,ob,k _ _ (.inl rfl) e,c⟩
 | dK kvs=>obtain⟨z,y,vs,r,ob,es,ep,e,c⟩:=x;exact⟨z,y,vs,r,ob,es,ep,k _ _ (.inl rfl) e,c⟩
 | dT kvs=>
  obtain⟨z,y,xs,r,ob,es,ep,e,c⟩:=x
  exact⟨z,y,xs,Paired.mP r λp q z=>⟨z.1,ht _ _ z.2.1,z.2.2⟩,ob,es,ep,k _ _ (.inl rfl) e,c⟩
 | set S n=>obtain⟨ob,es,ep,t,e,c⟩:=x;exact⟨ob,es,ep,t,k _ _ (.inl rfl) e,c⟩
 | ins C dx fs=>
  obtain⟨d,z,ne,e,mA,⟨od,es,ep,e2,c⟩,r⟩:=x
  exact⟨ho _ d,z,ne,k _ _ (.inl rfl) e,mA,⟨od,es,ep,k _ _ (.inr d) e2,c⟩,r⟩
 | own y=>obtain⟨ob,e⟩:=x;exact⟨ob,k _ _ (.inl rfl) e⟩
 | xd fs=>obtain⟨mA,⟨od,es,ep,e,c⟩,r⟩:=x;exact⟨mA,⟨od,es,ep,k _ _ (.inl rfl) e,c⟩,r⟩
 | rng lo hi=>obtain⟨t,u,v,e⟩:=x;exact⟨t,u,v,k _ _ (.inl rfl) e⟩
 | jb ob u ih=>obtain⟨e,q⟩:=x;exact⟨k _ _ (.inl rfl) e,ih q⟩
 | gw ps=>
  have e:h.get? a=some {cls:=.none,data:=.fields ps}:=x
  show h'.get? a=some {cls:=.none,data:=.fields ps}
  exact k a _ (.inl rfl) e
 | met f y=>
  have e:h.get? a=some (FJ (.ref f) (.ref y)):=x
  show h'.get? a=some (FJ (.ref f) (.ref y))
  exact k a _ (.inl rfl) e
 | ext φ=>obtain⟨p,⟨o,e⟩,st⟩:=x;exact⟨st _ _ p λo q=>k _ _ (.inl rfl) q,⟨o,k _ _ (.inl rfl) e⟩,st⟩
theorem cV.lt(x:cV P w H h)(e:H a=some o):a<h.objs.size:=(x a o e).lt
theorem cV.fresh(x:cV P w H h)(e:h.objs.size<=a):H a=none:=by
 cases q:H a with
 | none=>rfl
 | some u=>exact absurd (AY (x.lt q) e) (BQ _)
theorem cV.kept(x:cV P w H h)(k:∀b u,h.get? b=some u->h'.get? b=some u):cV P w H h':=λa o e=>
 (x a o e).stay (λb u _ q=>k b u q) (λ_ q=>q) λ_ _ q=>q
theorem cV.laid(x:cV P w H h)(k:∀b u,h.get? b=some u->h'.get? b=some u)(hp:h.objs.size<=a)(new:bM P w (upd H a o) h' a o):cV P w (upd H a o) h':=λb u e=>by
 have hn:=x.fresh hp
 by_cases hb:b=a
 ·subst hb;rw[af] at e;cases e;exact new
 ·rw[ao hb] at e
  exact(x b u e).stay (λc v _ q=>k c v q) (λc q=>by rw[ao (ak q hn)];exact q) λc xs q=>by rw[ao (ak q hn)];exact q
end
def Rd(H:Hp)(a:Addr)(u:HO):Prop:=H a=some u∨∃o,H a=some (.jb o u)
theorem Rd.ok{P:Ak}{w:World}{H:Hp}{h:Heap}{a:Addr}{u:HO}(r:Rd H a u)(x:cV P w H h):bM P w H h a u:=by
 rcases r with r | ⟨o,r⟩
 ·exact x a u r
 ·obtain⟨_,q⟩:=x a _ r
  exact q
def KH:Option HO->Prop
 | some (.lst _)=>True
 | some (.dK _)=>True
 | some (.dT _)=>True
 | some (.set _ _)=>True
 | some (.ins _ _ _)=>True
 | some (.ext _)=>True
 | _=>False
section
variable{P:Ak}{w:World}{H:Hp}{h h':Heap}{x e:Addr}{o':HO}
theorem cV.write(ok:cV P w H h)(mu:KH (H x))(he:e=x∨H e=some (.own x))(k:∀b u,b≠e->h.get? b=some u->h'.get? b=some u)(heo:∃u,h'.get? e=some u)
  (new:bM P w (upd H x o') h' x o'):cV P w (upd H x o') h':=λb u q=>by
 have Si:∀c y,H c=some (.own y)->c≠x:=λc y r z=>by subst z;rw[r] at mu;exact mu
 have Zg:∀c xs,H c=some (.tup xs)->c≠x:=λc xs r z=>by subst z;rw[r] at mu;exact mu
 by_cases hb:b=x
 ·subst hb;rw[af] at q;cases q;exact new
 ·rw[ao hb] at q
  by_cases hbe:b=e
  ·have q':H b=some (.own x):=by
    rcases he with z | z
    ·exact absurd (hbe.trans z) hb
    ·rw[hbe];exact z
   rw[q] at q';cases q'
   obtain⟨v,hv⟩:=heo
   exact⟨v,by rw[hbe];exact hv⟩
  ·refine(ok b u q).stay (λc v hc r=>k c v ?_ r) (λc r=>by rw[ao (Si c b r)];exact r) λc xs r=>by rw[ao (Zg c xs r)];exact r
   rcases hc with rfl | hc
   ·exact hbe
   ·rintro rfl
    rcases he with z | z
    ·exact Si c b hc z
    ·rw[hc] at z;cases z;exact hb rfl
end
structure Un (fs ex:List Addr)(H H':Hp)(h h':Heap):Prop where
 keep:∀b o,h.get? b=some o->H b=none->b ∉ fs->b ∉ ex->h'.get? b=some o
 slot:∀b o,h.get? b=some o->H b=none->b∈fs->b ∉ ex->∃sl,h'.get? b=some {o with slots:=sl}
 free:∀b o,h.get? b=some o->H b=none->b ∉ ex->H' b=none
 there:∀b o,h.get? b=some o->b ∉ ex->∃o',h'.get? b=some o'
 tups:∀b xs,H b=some (.tup xs)->H' b=some (.tup xs)
 jW:∀b o u,H b=some (.jb o u)->H' b=some (.jb o u)
 jX:∀b ps,H b=some (.gw ps)->∃more,H' b=some (.gw (ps++more))
section
variable{fs fs' ex ex':List Addr}{H H1 H2:Hp}{h h1 h2 h':Heap}{a x e:Addr}{o:HO}
theorem Un.any(u:Un fs ex H H1 h h1){b:Addr}{ob:Obj}(q:h.get? b=some ob)(n:H b=none)(hx:b ∉ ex):∃sl,h1.get? b=some {ob with slots:=sl}:=by
 by_cases hb:b∈fs
 ·exact u.slot b ob q n hb hx
 ·exact⟨ob.slots,u.keep b ob q n hb hx⟩
theorem Un.kept(k:∀b u,h.get? b=some u->h'.get? b=some u):Un fs ex H H h h':=
 ⟨λb ob q _ _ _=>k b ob q,λb ob q _ _ _=>⟨ob.slots,k b ob q⟩,λ_ _ _ n _=>n,λb ob q _=>⟨ob,k b ob q⟩,λ_ _ q=>q,λ_ _ _ q=>q,λ_ ps q=>⟨#[],by rw[q];simp⟩⟩
theorem Un.refl:Un fs ex H H h h:=Un.kept λ_ _ q=>q
theorem Un.laid(k:∀b u,h.get? b=some u->h'.get? b=some u)(hp:h.objs.size<=a)(hn:H a=none):Un fs ex H (upd H a o) h h' where
 keep:=λb u q _ _ _=>k b u q
 slot:=λb u q _ _ _=>⟨u.slots,k b u q⟩
 free:=λb u q n _=>by rw[ao (Ae (AY (AN q) hp))];exact n
 there:=λb u q _=>⟨u,k b u q⟩
 tups:=λb xs q=>by rw[ao (ak q hn)];exact q
 jW:=λb u xs q=>by rw[ao (ak q hn)];exact q
 jX:=λb ps q=>⟨#[],by rw[ao (ak q hn),q];simp⟩
theorem Un.write(mu:KH (H x))(he:e=x∨H e=some (.own x))(k:∀b u,b≠e->h.get? b=some u->h'.get? b=some u)(heo:∃u,h'.get? e=some u):Un fs ex H (upd H x o) h h':=by
 have hx:∀b,H b=none->b≠x:=λb n z=>by subst z;rw[n] at mu;exact mu
 have hb:∀b,H b=none->b≠e:=λb n z=>by
  subst z
  rcases he with r | r
  ·exact hx b n r
  ·rw[n] at r;cases r
 have hm:∀b u,H b=some u->¬KH (some u)->b≠x:=λb u q nm z=>by subst z;rw[q] at mu;exact nm mu
 refine⟨λb u q n _ _=>k b u (hb b n) q,λb u q n _ _=>⟨u.slots,k b u (hb b n) q⟩,λb u q n _=>by rw[ao (hx b n)];exact n,λb u q _=>?_,
  λb xs q=>by rw[ao (hm b _ q λz=>z)];exact q,λb u xs q=>by rw[ao (hm b _ q λz=>z)];exact q,λb ps q=>⟨#[],by rw[ao (hm b _ q λz=>z),q];simp⟩⟩
 by_cases hbe:b=e
 ·subst hbe;exact heo
 ·exact⟨u,k b u hbe q⟩
end
def Pe(h:Heap)(H:Hp):List Addr:=(BM h.objs.size).filter λa=>(H a).isSome
def jY(h:Heap)(H:Hp):Heap:=PySem.W.hideAll h (Pe h H)
theorem uM(h:Heap)(H:Hp):(jY h H).objs.size=h.objs.size:=GY _ _
theorem xq{h:Heap}{H:Hp}{b:Addr}{o:Obj}(e:h.get? b=some o)(n:H b=none):(jY h H).get? b=some o:=
 G5 _ e λhm=>by
  have q:(H b).isSome=true:=(GD.mp hm).2
  rw[n] at q;simp at q
theorem H_{h:Heap}{H:Hp}{b:Addr}{o:Obj}(e:(jY h H).get? b=some o):h.get? b=some o/\H b=none:=by
 have e':h.get? b=some o:=HD (Pe h H) e
 refine⟨e',?_⟩
 cases q:H b with
 | none=>rfl
 | some x=>
  have hm:b∈Pe h H:=GD.mpr ⟨CT.mpr (AN e'),by simp[q]⟩
  have z:(jY h H).get? b=none:=GZ (Pe h H) hm
  rw[z] at e;cases e
structure Mod (K:AD)(mg:Str->Option Value)(base:Heap):Prop where
 oC:K.In base
 glob:base.Ns AU mg
 blt:∃mb,base.Ns Fq mb/\∀x:Str,x≠"__name__"->mb x=BN x
 nolimit:base.NoLimit
structure Cx where
 prog:Ak
 w:World
 K:AD
 mg:Str->Option Value
 base:Heap
 A:A9
 N:List Str
 s₀:AI
 H₀:Hp
 env:Env
 outer:List Env
 stack:List Env
 ex:List Addr
 fn:Str->Bool
 calm:Bool
 pn:List (Addr×Obj)
 xe:Value->AI->Prop
def frs(l:List Env):List Addr:=l.filterMap (·.frame)
abbrev Cx.fs (X:Cx):List Addr:=frs X.outer
def Ia(sc:Scope)(x:Str):Prop:=sc.names.lookup x=some .local∨sc.names.lookup x=some .cell∨sc.names.lookup x=some .free
def Loc(sc:Scope)(x:Str):Prop:=sc.names.lookup x=some .local∨sc.names.lookup x=some .cell
def Look(env:Env)(h:Heap)(m:Str->Option Value)(x:Str)(u:Value):Prop:=
 (env.kindOf x=some .local/\m x=some u)∨((env.kindOf x=some .cell∨env.kindOf x=some .free)/\∃c,env.cells.lookup x=some c/\h.IsCell c (some u))
structure Cx.Ok (X:Cx):Prop where
 mod:Mod X.K X.mg X.base
 kind:X.env.scope.kind=.function
 glob:X.env.globals=AU
 blt:X.env.builtins=Fq
 above:X.s₀.heap.objs.size<=X.env.locals
 inj:∀x y c,X.env.cells.lookup x=some c->X.env.cells.lookup y=some c->x=y
 has:∀x,(X.env.kindOf x=some .cell∨X.env.kindOf x=some .free)->∃c,X.env.cells.lookup x=some c
 cab:∀x c,X.fn x=true->X.env.cells.lookup x=some c->X.s₀.heap.objs.size<=c
 hd:X.calm=true->X.A.handled=none
 frames:X.A.frames=some X.stack
 stk:X.stack=X.outer∨(X.stack=X.env::X.outer/\X.env.frame=some X.env.locals)
 Sj:∀b∈X.ex,b≠X.env.locals/\∀x c,X.env.cells.lookup x=some c->c≠b
 bs:∀b o,X.base.get? b=some o->X.s₀.heap.get? b=some o/\X.H₀ b=none
 oE:X.base.objs.size<=X.s₀.heap.objs.size
 xr:∀b o,X.base.get? b=some o->b ∉ X.ex
 xt:∀b∈X.ex,b ∉ X.fs
 ic:X.s₀.heap.FunFrames X.base X.outer
 uN:∀b∈X.fs,X.H₀ b=none
structure Inv (X:Cx)(pins:List (Addr×Obj))(σ:List (Option V))(H:Hp)(s:AI):Prop where
 ok:X.Ok
 os:s.os=X.s₀.os
 bare:FK s.gens
 base:Un X.fs X.ex X.H₀ H X.s₀.heap s.heap
 loc:∃m,s.heap.Ns X.env.locals m/\∀(i:Nat) (x:Str) (v:V),X.N[i]? =some x->σ[i]? =some (some v)->Ia X.env.scope x->∃u,RelV v u/\Look X.env s.heap m x u
 cell:∀x c,X.env.cells.lookup x=some c->∃v,s.heap.IsCell c v
 free:H X.env.locals=none
 gb:∀x c,X.env.cells.lookup x=some c->H c=none
 pin:∀p∈X.pn++pins,s.heap.get? p.1=some p.2/\H p.1=none/\p.1≠X.env.locals/\p.1 ∉ X.fs/\∀v,p.2.data≠.cell v
 hok:cV X.prog X.w H s.heap
 len:σ.length=X.N.length
section
variable{X:Cx}{pins:List (Addr×Obj)}{σ:List (Option V)}{H H':Hp}{s:AI}{h':Heap}
theorem Cx.Ok.Sk(ok:X.Ok){b:Addr}{o:Obj}(e:X.base.get? b=some o):b ∉ X.fs:=λhb=>by
 have:=(ok.ic.mem hb).1
 rw[e] at this;cases this
theorem Inv.bs(I:Inv X pins σ H s):∀b o,X.base.get? b=some o->s.heap.get? b=some o/\H b=none:=λb o e=>
 ⟨I.base.keep b o (I.ok.bs b o e).1 (I.ok.bs b o e).2 (I.ok.Sk e) (I.ok.xr b o e),I.base.free b o (I.ok.bs b o e).1 (I.ok.bs b o e).2 (I.ok.xr b o e)⟩
theorem Inv.bk(I:Inv X pins σ H s):∀b o,X.base.get? b=some o->s.heap.get? b=some o:=λb o e=>(I.bs b o e).1
theorem Inv.mod(I:Inv X pins σ H s):Mod X.K X.mg X.base:=I.ok.mod
theorem Inv.gx(I:Inv X pins σ H s):X.K.In s.heap:=I.ok.mod.oC.keeps I.bk
theorem Inv.lt(I:Inv X pins σ H s):X.env.locals<s.heap.objs.size:=let ⟨_,hn,_⟩:=I.loc;hn.lt
theorem Inv.sz(I:Inv X pins σ H s):X.s₀.heap.objs.size<=s.heap.objs.size:=BB I.ok.above (Bx I.lt)
theorem Inv.Zh(I:Inv X pins σ H s){a:Addr}(h:s.heap.objs.size<=a):a ∉ X.fs:=λhb=>by
 obtain⟨_,o,ho,_⟩:=I.ok.ic.mem hb
 exact absurd (AY (AN ho) (BB I.sz h)) (BQ _)
theorem Inv.uO(I:Inv X pins σ H s):∀x c,X.env.cells.lookup x=some c->c≠X.env.locals:=λx c e z=>by
 obtain⟨v,o,ho,hd⟩:=I.cell x c e
 obtain⟨m,⟨o',es,ep,ho',hd',_⟩,_⟩:=I.loc
 rw[z,ho'] at ho;cases ho;rw[hd'] at hd;cases hd
theorem Inv.ic(I:Inv X pins σ H s):s.heap.FunFrames X.base X.outer:=by
 have all:∀(l:List Env),(∀b∈frs l,b∈X.fs)->X.s₀.heap.FunFrames X.base l->s.heap.FunFrames X.base l:=by
  intro l
  induction l with
  | nil=>intro _ _;trivial
  | cons env r ih=>
   intro hs hl
   obtain⟨hk,⟨L,o,hf,hn,ho,hd⟩,hr⟩:=hl
   have hL:L∈X.fs:=hs L (by unfold frs;rw[Dh,hf];exact AZ)
   obtain⟨sl,e⟩:=I.base.slot L o ho (I.ok.uN L hL) hL λz=>I.ok.xt L z hL
   exact⟨hk,⟨L,_,hf,hn,e,hd⟩,ih (λb hb=>hs b (by unfold frs;rw[Dh,hf];exact AV _ hb)) hr⟩
 exact all X.outer (λ_ hb=>hb) I.ok.ic
theorem Inv.stack(I:Inv X pins σ H s):s.heap.FunFrames X.base X.stack:=by
 rcases I.ok.stk with e | ⟨e,hf⟩
 ·rw[e];exact I.ic
 ·rw[e]
  obtain⟨m,hn,_⟩:=I.loc
  refine .cons (by rw[I.ok.kind];decide) hf hn ?_ I.ic
  exact Heap.get?_none_of_le (BB I.ok.oE I.ok.above)
theorem Inv.oF(I:Inv X pins σ H s):∀b∈frs X.stack,b∈X.env.locals::X.fs:=λb hb=>by
 rcases I.ok.stk with e | ⟨e,hf⟩
 ·rw[e] at hb;exact AV _ hb
 ·rw[e] at hb
  unfold frs at hb
  rw[Dh,hf] at hb
  exact hb
theorem Inv.lR(I:Inv X pins σ H s):∀b∈frs X.stack,H b=none:=λb hb=>by
 rcases Ac.mp (I.oF b hb) with e | hb
 ·rw[e];exact I.free
 ·obtain⟨_,o,ho,_⟩:=I.ok.ic.mem hb
  exact I.base.free b o ho (I.ok.uN b hb) λz=>I.ok.xt b z hb
theorem Inv.step{g':Array Ga}{t':Nat}{d':Drawn}{ch:List Addr}(I:Inv X pins σ H s)
  (hch:∀b∈ch,(b∈X.ex∨X.s₀.heap.objs.size<=b)/\b≠X.env.locals/\(∀x c,X.env.cells.lookup x=some c->c≠b)/\∀p∈X.pn++pins,p.1≠b)
  (keep:∀b o,b≠X.env.locals->b ∉ X.fs->b ∉ ch->s.heap.get? b=some o->H b=none->h'.get? b=some o)
  (slot:∀b o,b≠X.env.locals->b∈X.fs->b ∉ ch->s.heap.get? b=some o->H b=none->∃sl,h'.get? b=some {o with slots:=sl}) (free:∀b o,b ∉ ch->s.heap.get? b=some o->H b=none->H' b=none)
  (there:∀b o,b ∉ ch->s.heap.get? b=some o->∃o',h'.get? b=some o')
  (tups:∀b xs,H b=some (.tup xs)->H' b=some (.tup xs)) (jW:∀b o u,H b=some (.jb o u)->H' b=some (.jb o u)) (jX:∀b ps,H b=some (.gw ps)->∃more,H' b=some (.gw (ps++more)))
  (ns:∀m,s.heap.Ns X.env.locals m->h'.Ns X.env.locals m) (hok:cV X.prog X.w H' h') (hg:FK g'):
  Inv X pins σ H' {s with heap:=h',gens:=g',drawn:=d',toks:=t'}:=by
 have XI:∀b o,X.s₀.heap.get? b=some o->b≠X.env.locals:=λb o e=>Ae (AY (AN e) I.ok.above)
 have Pf:∀b o,X.s₀.heap.get? b=some o->b ∉ X.ex->b ∉ ch:=λb o e hx hb=>by
  rcases(hch b hb).1 with z | z
  ·exact hx z
  ·exact absurd (AY (AN e) z) (BQ _)
 have cellK:∀x c,X.env.cells.lookup x=some c->∀v,s.heap.IsCell c v->h'.IsCell c v:=λx c e v ⟨o,ho,hd⟩=>by
  have oG:c ∉ ch:=λz=>(hch c z).2.2.1 x c e rfl
  by_cases hc:c∈X.fs
  ·obtain⟨sl,q⟩:=slot c o (I.uO x c e) hc oG ho (I.gb x c e)
   exact⟨_,q,hd⟩
  ·exact⟨o,keep c o (I.uO x c e) hc oG ho (I.gb x c e),hd⟩
 refine⟨I.ok,I.os,hg,⟨λb o e n hb hx=>?_,λb o e n hb hx=>?_,λb o e n hx=>?_,λb o e hx=>?_,λb xs e=>tups b xs (I.base.tups b xs e),λb o xs e=>jW b o xs (I.base.jW b o xs e),λb ps e=>?_⟩,?_,λx c e=>?_,?_,λx c e=>?_,λp hp=>?_,hok,I.len⟩
 ·exact keep b o (XI b o e) hb (Pf b o e hx) (I.base.keep b o e n hb hx) (I.base.free b o e n hx)
 ·obtain⟨sl,e1⟩:=I.base.slot b o e n hb hx
  obtain⟨sl',e2⟩:=slot b _ (XI b o e) hb (Pf b o e hx) e1 (I.base.free b o e n hx)
  exact⟨sl',e2⟩
 ·obtain⟨o',e1⟩:=I.base.there b o e hx
  exact free b o' (Pf b o e hx) e1 (I.base.free b o e n hx)
 ·obtain⟨o',e1⟩:=I.base.there b o e hx
  exact there b o' (Pf b o e hx) e1
 ·obtain⟨m1,e1⟩:=I.base.jX b ps e
  obtain⟨m2,e2⟩:=jX b _ e1
  exact⟨m1++m2,by rw[e2,Array.append_assoc]⟩
 ·obtain⟨m,hn,hl⟩:=I.loc
  refine⟨m,ns m hn,λi x v e1 e2 e3=>?_⟩
  obtain⟨u,r,l⟩:=hl i x v e1 e2 e3
  refine⟨u,r,?_⟩
  rcases l with l | ⟨k,c,e,z⟩
  ·exact .inl l
  ·exact .inr ⟨k,c,e,cellK x c e _ z⟩
 ·obtain⟨v,z⟩:=I.cell x c e
  exact⟨v,cellK x c e v z⟩
 ·obtain⟨m,⟨o,_,_,ho,_⟩,_⟩:=I.loc
  exact free _ o (λz=>(hch _ z).2.1 rfl) ho I.free
 ·obtain⟨v,o,ho,hd⟩:=I.cell x c e
  exact free c o (λz=>(hch c z).2.2.1 x c e rfl) ho (I.gb x c e)
 ·obtain⟨e,n,ne,nf,d⟩:=I.pin p hp
  have oG:p.1 ∉ ch:=λz=>(hch p.1 z).2.2.2 p hp rfl
  exact⟨keep p.1 p.2 ne nf oG e n,free p.1 p.2 oG e n,ne,nf,d⟩
theorem Inv.un{t':Nat}(I:Inv X pins σ H s)(u:Un X.fs [] H H' s.heap h')(hok:cV X.prog X.w H' h'):Inv X pins σ H' {s with heap:=h',toks:=t'}:=by
 obtain⟨m,⟨o,es,ep,ho,r⟩,_⟩:=id I.loc
 obtain⟨sl,hL⟩:=u.any ho I.free (by simp)
 exact I.step (g':=s.gens) (d':=s.drawn) (ch:=[]) (λ_ z=>nomatch z) (λb o _ hb _ e n=>u.keep b o e n hb (by simp)) (λb o _ hb _ e n=>u.slot b o e n hb (by simp)) (λb o _ e n=>u.free b o e n (by simp)) (λb o _ e=>u.there b o e (by simp)) u.tups u.jW u.jX (λm' hm=>by
  obtain⟨o',es',ep',ho',r'⟩:=hm
  rw[ho] at ho';cases ho'
  exact⟨_,es',ep',hL,r'⟩) hok I.bare
theorem Inv.call{g':Array Ga}{t':Nat}{d':Drawn}{ch:List Addr}(I:Inv X pins σ H s)(u:Un (frs X.stack) ch H H' s.heap h')(hok:cV X.prog X.w H' h')(hg:FK g')
  (hch:∀b∈ch,(b∈X.ex∨X.s₀.heap.objs.size<=b)/\b≠X.env.locals/\(∀x c,X.env.cells.lookup x=some c->c≠b)/\∀p∈X.pn++pins,p.1≠b):
  Inv X pins σ H' {s with heap:=h',gens:=g',drawn:=d',toks:=t'}:=by
 obtain⟨m,⟨o,es,ep,ho,r⟩,_⟩:=id I.loc
 obtain⟨sl,hL⟩:=u.any ho I.free λz=>(hch _ z).2.1 rfl
 exact I.step (ch:=ch) hch (λb o hL hb hc e n=>u.keep b o e n (λz=>(Ac.mp (I.oF b z)).elim hL hb) hc) (λb o _ _ hc e n=>u.any e n hc) (λb o hc e n=>u.free b o e n hc) (λb o hc e=>u.there b o e hc) u.tups u.jW u.jX (λm' hm=>by
  obtain⟨o',es',ep',ho',r'⟩:=hm
  rw[ho] at ho';cases ho'
  exact⟨_,es',ep',hL,r'⟩) hok hg
theorem Inv.turned{t':Nat}{it:Addr}(I:Inv X pins σ H s)(k:∀b o,b≠it->s.heap.get? b=some o->h'.get? b=some o)(hn:H it=none)(hL:it≠X.env.locals)
  (h1:it∈X.ex∨X.s₀.heap.objs.size<=it) (h2:∀x c,X.env.cells.lookup x=some c->c≠it) (h3:∀p∈X.pn++pins,p.1≠it):Inv X pins σ H {s with heap:=h',toks:=t'}:=by
 have XJ:∀b u,H b=some u->b≠it:=λb u e z=>by rw[z,hn] at e;cases e
 refine I.step (g':=s.gens) (d':=s.drawn) (ch:=[it]) (λb hb=>?_) (λb o _ _ hc e _=>k b o (λz=>hc (by simp[z])) e) (λb o _ _ hc e _=>⟨o.slots,k b o (λz=>hc (by simp[z])) e⟩) (λ_ _ _ _ n=>n)
  (λb o hc e=>⟨o,k b o (λz=>hc (by simp[z])) e⟩) (λ_ _ e=>e) (λ_ _ _ e=>e) (λb ps e=>⟨#[],by rw[e];simp⟩) (λm hm=>?_) (λb u e=>?_) I.bare
 ·have e:b=it:=by simpa using hb
  subst e
  exact⟨h1,hL,h2,h3⟩
 ·obtain⟨o,es,ep,ho,r⟩:=hm
  exact⟨o,es,ep,k _ o (DM hL) ho,r⟩
 ·refine(I.hok b u e).stay (λc v hc q=>k c v ?_ q) (λ_ q=>q) λ_ _ q=>q
  rcases hc with z | z
  ·rw[z];exact XJ b u e
  ·exact XJ c _ z
theorem Inv.tok(I:Inv X pins σ H s)(t:Nat):Inv X pins σ H {s with toks:=t}:=I.un (h':=s.heap) (t':=t) Un.refl I.hok
theorem Inv.kept{t':Nat}(I:Inv X pins σ H s)(k:∀b u,s.heap.get? b=some u->h'.get? b=some u):Inv X pins σ H {s with heap:=h',toks:=t'}:=I.un (Un.kept k) (I.hok.kept k)
theorem Inv.laid{a:Addr}{o:HO}{t':Nat}(I:Inv X pins σ H s)(k:∀b u,s.heap.get? b=some u->h'.get? b=some u)(hp:s.heap.objs.size<=a)(new:bM X.prog X.w (upd H a o) h' a o):
  Inv X pins σ (upd H a o) {s with heap:=h',toks:=t'}:=I.un (Un.laid k hp (I.hok.fresh hp)) (I.hok.laid k hp new)
theorem Inv.write{x e:Addr}{o:HO}{t':Nat}(I:Inv X pins σ H s)(mu:KH (H x))(he:e=x∨H e=some (.own x))(k:∀b u,b≠e->s.heap.get? b=some u->h'.get? b=some u)(heo:∃u,h'.get? e=some u)
  (new:bM X.prog X.w (upd H x o) h' x o):Inv X pins σ (upd H x o) {s with heap:=h',toks:=t'}:=I.un (Un.write mu he k heo) (I.hok.write mu he k heo new)
theorem Inv.Ib{Pg:List (Addr×Obj)}(I:Inv X pins σ H s)(h:∀p∈Pg,s.heap.get? p.1=some p.2/\H p.1=none/\p.1≠X.env.locals/\p.1 ∉ X.fs/\∀v,p.2.data≠.cell v):Inv X Pg σ H s:=
 ⟨I.ok,I.os,I.bare,I.base,I.loc,I.cell,I.free,I.gb,λp hp=>(Ab.mp hp).elim (λz=>I.pin p (Gb _ z)) (h p),I.hok,I.len⟩
theorem xu{N:List Str}(hN:N.Nodup){i j:Nat}{x:Str}(a:N[i]? =some x)(b:N[j]? =some x):i=j:=by
 obtain⟨h1,e1⟩:=AF.mp a
 obtain⟨h2,e2⟩:=AF.mp b
 exact(List.getElem_inj hN).mp (e1.trans e2.symm)
theorem uP{M:Model}{A:A9}{E:Value->AI->Prop}{i:Nat}{x:Str}{v:V}{u:Value}{Q:Unit->AI->Prop}(I:Inv X pins σ H s)(hN:X.N.Nodup)(hi:X.N[i]? =some x)(hx:Loc X.env.scope x)(r:RelV v u)
  (h:∀s',Inv X pins (σ.set i (some v)) H s'->(∃a,B6 a s.heap s'.heap/\(a=X.env.locals∨X.env.cells.lookup x=some a))->Q () s') (hf:X.fn x=true∨X.env.scope.names.lookup x=some .local:=by first | exact .inl rfl | exact .inr rfl | assumption):wpAny M A (storeName X.env x u) Q E s:=by
 obtain⟨m,hn,hl⟩:=id I.loc
 have hcls:(X.env.scope.kind == .class||(X.env.scope.kind == .module&&X.env.locals != X.env.globals))=false:=by rw[I.ok.kind];rfl
 have XM:i<σ.length:=by rw[I.len];exact(AF.mp hi).1
 have uO:=I.uO
 have tracked:∀{a:Addr} {h':Heap},(∃o,s.heap.get? a=some o/\H a=none)->B6 a s.heap h'->cV X.prog X.w H h':=λ{a h'} ha hs b ob e=>by
  obtain⟨_,_,hfree⟩:=ha
  refine(I.hok b ob e).stay (λc w' hc q=>(hs.2 c ?_).trans q) (λ_ q=>q) λ_ _ q=>q
  rintro rfl
  rcases hc with rfl | hc
  ·rw[hfree] at e;cases e
  ·rw[hfree] at hc;cases hc
 rcases hx with hk | hk
 ·refine wpAny_storeName_local hk hn (λh' hn' hs=>?_) hcls
  obtain⟨oL,_,_,hoL,_⟩:=id hn
  refine h _ ⟨I.ok,I.os,I.bare,⟨λb o e n hb hx=>?_,λb o e n hb hx=>?_,I.base.free,λb o e hx=>?_,I.base.tups,I.base.jW,I.base.jX⟩,⟨_,hn',λj y v' e1 e2 e3=>?_⟩,λy c e=>?_,I.free,I.gb,λp hp=>?_,tracked ⟨oL,hoL,I.free⟩ hs,by simpa using I.len⟩ ⟨_,hs,.inl rfl⟩
  ·exact(hs.2 b (Ae (AY (AN e) I.ok.above))).trans (I.base.keep b o e n hb hx)
  ·obtain⟨sl,e1⟩:=I.base.slot b o e n hb hx
   exact⟨sl,(hs.2 b (Ae (AY (AN e) I.ok.above))).trans e1⟩
  ·obtain⟨o',e1⟩:=I.base.there b o e hx
   exact⟨o',(hs.2 b (Ae (AY (AN e) I.ok.above))).trans e1⟩
  ·by_cases hj:j=i
   ·subst hj
    rw[hi] at e1;cases e1
    rw[Fs XM] at e2
    cases e2
    exact⟨u,r,.inl ⟨hk,by simp⟩⟩
   ·rw[Gd (DM hj)] at e2
    obtain⟨u',r',q⟩:=hl j y v' e1 e2 e3
    refine⟨u',r',?_⟩
    rcases q with⟨k,e⟩ | ⟨k,c,e,z⟩
    ·refine .inl ⟨k,?_⟩
     have:y≠x:=λe=>hj (xu hN e1 (e▸hi))
     simp[this,e]
    ·exact .inr ⟨k,c,e,z.sameBut hs (uO y c e)⟩
  ·obtain⟨w',z⟩:=I.cell y c e
   exact⟨w',z.sameBut hs (uO y c e)⟩
  ·obtain⟨e,n,ne,nf,d⟩:=I.pin p hp
   exact⟨(hs.2 p.1 ne).trans e,n,ne,nf,d⟩
 ·have hfn:X.fn x=true:=by
   rcases hf with z | z
   ·exact z
   ·rw[z] at hk;cases hk
  obtain⟨c,hc⟩:=I.ok.has x (.inl hk)
  obtain⟨w',z⟩:=I.cell x c hc
  refine wpAny_storeName_cell I.ok.kind hk hc z (λh' hc' hs=>?_)
  obtain⟨oc,hoc,Zi⟩:=id z
  refine h {s with heap:=h'} ⟨I.ok,I.os,I.bare,⟨λb o e n hb hx=>?_,λb o e n hb hx=>?_,I.base.free,λb o e hx=>?_,I.base.tups,I.base.jW,I.base.jX⟩,⟨m,hn.sameBut hs (DM (uO x c hc)),λj y v' e1 e2 e3=>?_⟩,λy c' e=>?_,I.free,I.gb,λp hp=>?_,tracked ⟨oc,hoc,I.gb x c hc⟩ hs,by simpa using I.len⟩ ⟨c,hs,.inr hc⟩
  ·exact(hs.2 b (Ae (AY (AN e) (I.ok.cab x c hfn hc)))).trans (I.base.keep b o e n hb hx)
  ·obtain⟨sl,e1⟩:=I.base.slot b o e n hb hx
   exact⟨sl,(hs.2 b (Ae (AY (AN e) (I.ok.cab x c hfn hc)))).trans e1⟩
  ·obtain⟨o',e1⟩:=I.base.there b o e hx
   exact⟨o',(hs.2 b (Ae (AY (AN e) (I.ok.cab x c hfn hc)))).trans e1⟩
  ·by_cases hj:j=i
   ·subst hj
    rw[hi] at e1;cases e1
    rw[Fs XM] at e2
    cases e2
    exact⟨u,r,.inr ⟨.inl hk,c,hc,hc'⟩⟩
   ·rw[Gd (DM hj)] at e2
    obtain⟨u',r',q⟩:=hl j y v' e1 e2 e3
    refine⟨u',r',?_⟩
    rcases q with q | ⟨k,c',e,z'⟩
    ·exact .inl q
    ·refine .inr ⟨k,c',e,z'.sameBut hs ?_⟩
     rintro rfl
     exact hj (xu hN e1 (I.ok.inj _ _ _ e hc▸hi))
  ·by_cases hcc:c'=c
   ·subst hcc;exact⟨_,hc'⟩
   ·obtain⟨w2,z2⟩:=I.cell y c' e
    exact⟨w2,z2.sameBut hs hcc⟩
  ·obtain⟨e,n,ne,nf,d⟩:=I.pin p hp
   refine⟨(hs.2 p.1 ?_).trans e,n,ne,nf,d⟩
   intro q
   rw[q,hoc] at e
   have q':oc=p.2:=AS e
   exact d w' (by rw[<-q'];exact Zi)
theorem mQ{M:Model}{A:A9}{E:Value->AI->Prop}{i:Nat}{x:Str}{v:V}{u:Value}{Q:Unit->AI->Prop}(I:Inv X pins σ H s)(hN:X.N.Nodup)(hi:X.N[i]? =some x)(hx:Loc X.env.scope x)(r:RelV v u)
  (h:∀s',Inv X pins (σ.set i (some v)) H s'->Q () s') (hf:X.fn x=true∨X.env.scope.names.lookup x=some .local:=by first | exact .inl rfl | exact .inr rfl | assumption):wpAny M A (storeName X.env x u) Q E s:=
 uP I hN hi hx r (λs' I' _=>h s' I') hf
theorem Inv.call'{s':AI}{ch:List Addr}(I:Inv X pins σ H s)(ho:s'.os=s.os)(u:Un (frs X.stack) ch H H' s.heap s'.heap)(hok:cV X.prog X.w H' s'.heap)(hg:FK s'.gens)
  (hch:∀b∈ch,(b∈X.ex∨X.s₀.heap.objs.size<=b)/\b≠X.env.locals/\(∀x c,X.env.cells.lookup x=some c->c≠b)/\∀p∈X.pn++pins,p.1≠b):Inv X pins σ H' s':=by
 obtain⟨h',g',d',t',o'⟩:=s'
 have e:o'=s.os:=ho
 subst e
 exact I.call (g':=g') (t':=t') (d':=d') u hok hg hch
end
abbrev XK:=Value->Option Addr->Hp->Prop
abbrev St:=List (Option V)
abbrev VK:=V->Hp->Prop
abbrev TE:=St->Hp->VK->Prop
abbrev TT:=St->Hp->(Bool->Hp->Prop)->Prop
abbrev TA:=St->Hp->(List V->Hp->Prop)->Prop
structure Ends where
 nx:St->Hp->Prop
 rt:VK
 bk:St->Hp->Prop:=λ_ _=>False
 ct:St->Hp->Prop:=λ_ _=>False
abbrev TS:=Ends->St->Hp->Prop
def EP(X:Cx)(pins:List (Addr×Obj))(σ:St)(Q:VK)(u:Value)(s':AI):Prop:=∃v H',Inv X pins σ H' s'/\RelV v u/\Q v H'
def TP(X:Cx)(pins:List (Addr×Obj))(σ:St)(Q:Bool->Hp->Prop)(b:Bool)(s':AI):Prop:=∃H',Inv X pins σ H' s'/\Q b H'
def AP(X:Cx)(pins:List (Addr×Obj))(σ:St)(Q:List V->Hp->Prop)(us:List Value)(s':AI):Prop:=∃vs H',Inv X pins σ H' s'/\Vals vs us/\Q vs H'
def SP(X:Cx)(pins:List (Addr×Obj))(D:Ends)(f:Flow)(s':AI):Prop:=
 match f with
 | .next=>∃σ' H',Inv X pins σ' H' s'/\D.nx σ' H'
 | .brk=>∃σ' H',Inv X pins σ' H' s'/\D.bk σ' H'
 | .cont=>∃σ' H',Inv X pins σ' H' s'/\D.ct σ' H'
 | .ret u=>∃v σ' H',Inv X pins σ' H' s'/\RelV v u/\D.rt v H'
def PE(X:Cx)(e:Expr)(t:TE):Prop:=
 ∀(pins:List (Addr×Obj)) (s:AI) (σ:St) (H:Hp) (Q:VK),Inv X pins σ H s->t σ H Q->wpAny (model X.prog X.w) X.A (eval e X.env) (EP X pins σ Q) X.xe s
def PT(X:Cx)(e:Expr)(t:TT):Prop:=
 ∀(pins:List (Addr×Obj)) (s:AI) (σ:St) (H:Hp) (Q:Bool->Hp->Prop),Inv X pins σ H s->t σ H Q->wpAny (model X.prog X.w) X.A (isTrue e X.env (eval e X.env)) (TP X pins σ Q) X.xe s
def PW(X:Cx)(e:Expr)(t:TT):Prop:=
 ∀(whole:Sem Value) (pins:List (Addr×Obj)) (s:AI) (σ:St) (H:Hp) (Q:Bool->Hp->Prop),Inv X pins σ H s->t σ H Q->wpAny (model X.prog X.w) X.A (isTrue e X.env whole) (TP X pins σ Q) X.xe s
theorem PW.pt{X:Cx}{e:Expr}{t:TT}(h:PW X e t):PT X e t:=h _
def PA(X:Cx)(es:List Expr)(t:TA):Prop:=
 ∀(pos:Pos) (pins:List (Addr×Obj)) (s:AI) (σ:St) (H:Hp) (Q:List V->Hp->Prop),Inv X pins σ H s->t σ H Q->wpAny (model X.prog X.w) X.A (spliced (D_ pos (BC es X.env))) (AP X pins σ Q) X.xe s
def PS(X:Cx)(st:Stmt)(t:TS):Prop:=
 ∀(pins:List (Addr×Obj)) (s:AI) (σ:St) (H:Hp) (D:Ends),Inv X pins σ H s->t D σ H->wpAny (model X.prog X.w) X.A (exec st X.env) (SP X pins D) X.xe s
def jE(X:Cx)(st:List Stmt)(t:TS):Prop:=
 ∀(pins:List (Addr×Obj)) (s:AI) (σ:St) (H:Hp) (D:Ends),Inv X pins σ H s->t D σ H->wpAny (model X.prog X.w) X.A (execs st X.env) (SP X pins D) X.xe s
theorem aM{α:Type}{t:Sem α}{Q Q':α->AI->Prop}{M:Model}{A:A9}{E:Value->AI->Prop}{s:AI}(h:wpAny M A t Q E s)(hQ:∀a s,Q a s->Q' a s):wpAny M A t Q' E s:=Bi h hQ λ_ _ x=>x
section
variable{X:Cx}
def Jw(i:Nat):TE:=λσ H Q=>∃v,σ[i]? =some (some v)/\Q v H
def tC(v:V):TE:=λ_ H Q=>Q v H
theorem Sl{i:Nat}{x:Str}{pos:Pos}(hN:X.N[i]? =some x)(hv:Ia X.env.scope x)(hd:(x == ("__debug__":Str))=false:=by decide)(hcd:(x == ("__classdict__":Str))=false:=by decide):PE X (.Name x pos) (Jw i):=by
 intro pins s σ H Q I h
 obtain⟨v,e,h⟩:=h
 obtain⟨m,hn,hl⟩:=I.loc
 obtain⟨u,r,l⟩:=hl i x v hN e hv
 have fin:EP X pins σ Q u s:=⟨v,H,I,r,h⟩
 rcases l with⟨hk,hm⟩ | ⟨hk,c,hc,hcell⟩
 ·exact Ey (wpAny_loadName_local I.ok.kind hk hn hm fin) hd
 ·rcases hk with hk | hk
  ·exact Ey (wpAny_loadName_cell I.ok.kind hk hc hcell fin) hd
  ·exact Ey (wpAny_loadName_free I.ok.kind hk hc hcell fin hcd) hd
theorem aj{i j pos}:PE X (.Constant (.int i) j pos) (tC (.int i)):=λ_ _ _ H _ I h=>wpAny_Constant_int ⟨.int i,H,I.tok _,⟨_,rfl⟩,h⟩
theorem Jx{b j pos}:PE X (.Constant (.bool b) j pos) (tC (.bl b)):=λ_ _ _ H _ I h=>Constant_bool ⟨.bl b,H,I,rfl,h⟩
theorem ie{j pos}:PE X (.Constant .none j pos) (tC .non):=λ_ _ _ H _ I h=>Constant_none ⟨.non,H,I,rfl,h⟩
theorem bH{x j pos}:PE X (.Constant (.str x) j pos) (tC (.str x)):=λ_ _ _ H _ I h=>Calls.Constant_str ⟨.str x,H,I.tok _,⟨_,rfl⟩,h⟩
def Gl(X:Cx)(x:Str):Prop:=X.env.kindOf x=some .globalImplicit
theorem tO{E:Value->AI->Prop}{pins:List (Addr×Obj)}{s:AI}{σ:St}{H:Hp}{x:Str}{u:Value}{pos:Pos}{Q:Value->AI->Prop}(I:Inv X pins σ H s)(hg:Gl X x)(hm:X.mg x=some u)(h:Q u s)
  (hd:(x == ("__debug__":Str))=false:=by decide):wpAny (model X.prog X.w) X.A (eval (.Name x pos) X.env) Q E s:=
 Ez I.ok.kind hg (Calls.loadGlobal_global (by rw[I.ok.glob];exact I.mod.glob.keeps I.bk) hm h) hd
theorem gy{E:Value->AI->Prop}{pins:List (Addr×Obj)}{s:AI}{σ:St}{H:Hp}{x:Str}{u:Value}{pos:Pos}{Q:Value->AI->Prop}(I:Inv X pins σ H s)(hg:Gl X x)(hm:X.mg x=none)(hv:BN x=some u)(h:Q u s)
  (hn:x≠"__name__":=by decide) (hd:(x == ("__debug__":Str))=false:=by decide):wpAny (model X.prog X.w) X.A (eval (.Name x pos) X.env) Q E s:=by
 obtain⟨mb,h1,h2⟩:=I.mod.blt
 exact Ez I.ok.kind hg (Calls.loadGlobal_builtin (by rw[I.ok.glob];exact I.mod.glob.keeps I.bk) hm (by rw[I.ok.blt];exact h1.keeps I.bk) ((h2 x hn).trans hv) h) hd
theorem fH{x:Str}{v:V}{u:Value}{pos:Pos}(hg:Gl X x)(hm:X.mg x=none)(hv:BN x=some u)(r:RelV v u)(hn:x≠"__name__":=by decide)(hd:(x == ("__debug__":Str))=false:=by decide):PE X (.Name x pos) (tC v):=
 λ_ _ _ H _ I h=>gy I hg hm hv ⟨v,H,I,r,h⟩ hn hd
variable{a b:Expr}{ta tb:TE}{pos:Pos}
def PC(X:Cx)(op:CmpOp)(a b:Expr)(t:TE):Prop:=
 ∀(pins:List (Addr×Obj)) (s:AI) (σ:St) (H:Hp) (Q:VK),Inv X pins σ H s->t σ H Q->
  wpAny (model X.prog X.w) X.A (eval a X.env) (λv s₁=>wpAny (model X.prog X.w) X.A (eval b X.env) (λu s₂=>wpAny (model X.prog X.w) X.A (Bt op v u) (EP X pins σ Q) X.xe s₂) X.xe s₁) X.xe s
def tB(t:TE):TT:=λσ H Q=>t σ H λx H1=>∃c,x=.bl c/\Q c H1
theorem KI{op:CmpOp}{t:TE}(h:PC X op a b t)(h1:behindInMarks op b=false:=by first | exact Zj _ (by decide) (by decide) | rfl):PT X (.Compare a [op] [b] pos) (tB t):=by
 intro pins s σ H Q I hw
 refine wpAny_isTrue_Compare1 (aM (h pins s σ H _ I hw) λv s1 h1=>aM h1 λu s2 h2=>aM h2 λc s3 ⟨x,H1,I1,r1,q1⟩=>?_) h1
 obtain⟨d,rfl,q⟩:=q1
 cases r1
 exact CI ⟨H1,I1,q⟩
variable{tA Ph:TT}{rest:List Expr}
def Zk(t u:TT):TT:=λσ H Q=>t σ H λc H1=>if c=true then u σ H1 Q else Q false H1
def tOr(t u:TT):TT:=λσ H Q=>t σ H λc H1=>if c=true then Q true H1 else u σ H1 Q
def Zl(t:TT):TT:=λσ H Q=>t σ H λc H1=>Q (!c) H1
theorem Ic(ha:PT X a tA):PW X (.BoolOp .And [a] pos) tA:=by
 intro wh pins s σ H Q I h
 refine isTrue_and (aM (ha pins s σ H Q I h) λc s1 e=>?_)
 cases c with
 | true=>exact isTrue_and_nil e
 | false=>exact e
theorem oH(ha:PT X a tA):PW X (.BoolOp .Or [a] pos) tA:=by
 intro wh pins s σ H Q I h
 refine isTrue_or (aM (ha pins s σ H Q I h) λc s1 e=>?_)
 cases c with
 | false=>exact isTrue_or_nil e
 | true=>exact e
theorem KJ(ha:PT X a tA)(hb:PW X (.BoolOp .And (b::rest) pos) Ph):PW X (.BoolOp .And (a::b::rest) pos) (Zk tA Ph):=by
 intro wh pins s σ H Q I h
 refine isTrue_and (aM (ha pins s σ H _ I h) λc s1 ⟨H1,I1,q1⟩=>?_)
 cases c with
 | true=>exact hb wh pins s1 σ H1 Q I1 q1
 | false=>exact⟨H1,I1,q1⟩
theorem rD(ha:PT X a tA)(hb:PW X (.BoolOp .Or (b::rest) pos) Ph):PW X (.BoolOp .Or (a::b::rest) pos) (tOr tA Ph):=by
 intro wh pins s σ H Q I h
 refine isTrue_or (aM (ha pins s σ H _ I h) λc s1 ⟨H1,I1,q1⟩=>?_)
 cases c with
 | true=>exact⟨H1,I1,q1⟩
 | false=>exact hb wh pins s1 σ H1 Q I1 q1
theorem KL(ha:PT X a tA):PT X (.UnaryOp .Not a pos) (Zl tA):=by
 intro pins s σ H Q I h
 exact isTrue_not (ha pins s σ H (λc H1=>Q (!c) H1) I h)
def WN(ta tb:TE):TE:=λσ H Q=>ta σ H λx H1=>∃c,x=.bl c/\if c=true then tb σ H1 Q else Q (.bl false) H1
theorem Sm{op}{t:TE}(h:PE X a t):PE X (.BoolOp op [a] pos) t:=λpins s σ H Q I hw=>BoolOp_one (h pins s σ H Q I hw)
theorem Sn(ha:PE X a ta)(hb:PE X (.BoolOp .And (b::rest) pos) tb):PE X (.BoolOp .And (a::b::rest) pos) (WN ta tb):=by
 intro pins s σ H Q I h
 refine BoolOp_and (aM (ha pins s σ H _ I h) λv s1 ⟨x,H1,I1,r1,q1⟩=>?_)
 obtain⟨c,rfl,q1⟩:=q1
 cases r1
 refine CI ?_
 cases c with
 | true=>exact hb pins s1 σ H1 Q I1 q1
 | false=>exact⟨.bl false,H1,I1,rfl,q1⟩
end
def bz(K:AD)(H:Hp)(a:Addr)(xs:List V):Prop:=
 Rd H a (.lst xs)∨
  ∃(o:Obj) (its:Array Value) (n:Nat),K.lookup a=some o/\o.cls=.type "list"/\o.dict=none/\o.data=.seq its n/\its.size<=sizeLine/\Vals xs its.toList
def aZ(K:AD)(H:Hp)(a:Addr)(xs:List V):Prop:=
 Rd H a (.tup xs)∨
  ∃(o:Obj) (its:Array Value) (n:Nat),K.lookup a=some o/\o.cls=.type "tuple"/\o.data=.seq its n/\its.size<=sizeLine/\Vals xs its.toList
def Zm:Value->Option V
 | .none=>some .non
 | .bool b=>some (.bl b)
 | .int i _=>some (.int i)
 | .str x _=>some (.str x)
 | .bytes b _=>some (.jV b)
 | .float b _=>some (.flt b)
 | .ref a=>some (.ref a)
 | .type n=>some (.ty n)
 | _=>none
theorem RelV.abs{x:V}{u:Value}(r:RelV x u):Zm u=some x:=by
 cases x with
 | non=>cases r;rfl
 | bl _=>cases r;rfl
 | int _=>obtain⟨t,rfl⟩:=r;rfl
 | str _=>obtain⟨t,rfl⟩:=r;rfl
 | jV _=>obtain⟨t,rfl⟩:=r;rfl
 | flt _=>obtain⟨t,rfl⟩:=r;rfl
 | ref _=>cases r;rfl
 | ty _=>cases r;rfl
theorem RelV.inj{x y:V}{u:Value}(r:RelV x u)(q:RelV y u):x=y:=AS (r.abs.symm.trans q.abs)
theorem Vals.inj:∀{xs ys:List V} {us:List Value},Vals xs us->Vals ys us->xs=ys
 | _,_,_,.nil,.nil=>rfl
 | _,_,_,.cons r t,.cons r' t'=>by rw[r.inj r',Vals.inj t t']
section
variable{X:Cx}{pins:List (Addr×Obj)}{σ:St}{H:Hp}{s:AI}{a:Addr}{xs ys:List V}
theorem bz.of{K:AD}(h:H a=some (.lst xs)):bz K H a xs:=.inl (.inl h)
theorem aZ.of{K:AD}(h:H a=some (.tup xs)):aZ K H a xs:=.inl (.inl h)
theorem Inv.list(I:Inv X pins σ H s)(h:bz X.K H a xs):∃its:List Value,Vals xs its/\PlainL s.heap a its.toArray/\xs.length<=sizeLine:=by
 rcases h with h | ⟨o,its,n,hk,hc,hd,hs,hz,r⟩
 ·obtain⟨z,its,n,r,e⟩:=h.ok I.hok
  exact⟨its,r,⟨_,n,e,rfl,rfl,rfl⟩,z⟩
 ·refine⟨its.toList,r,⟨o,n,I.gx a o hk,hc,hd,by simpa using hs⟩,?_⟩
  have e:=r.length
  simp only[A6] at e
  omega
theorem Inv.tuple(I:Inv X pins σ H s)(h:aZ X.K H a xs):∃its:List Value,Vals xs its/\IsTup s.heap a its.toArray/\xs.length<=sizeLine:=by
 rcases h with h | ⟨o,its,n,hk,hc,hs,hz,r⟩
 ·obtain⟨z,its,r,p⟩:=h.ok I.hok
  exact⟨its,r,p,z.1⟩
 ·refine⟨its.toList,r,⟨o,I.gx a o hk,hc,n,by simpa using hs⟩,?_⟩
  have e:=r.length
  simp only[A6] at e
  omega
theorem Inv.iI(I:Inv X pins σ H s)(h:bz X.K H a xs)(h':bz X.K H a ys):xs=ys:=by
 obtain⟨its,r,⟨o,n,e,_,_,d⟩,_⟩:=I.list h
 obtain⟨its',r',⟨o',n',e',_,_,d'⟩,_⟩:=I.list h'
 rw[e] at e';cases e'
 rw[d] at d'
 injection d' with d1 _
 have:its=its':=by simpa using congrArg HJ d1
 subst this
 exact r.inj r'
theorem Inv.jc(I:Inv X pins σ H s)(h:aZ X.K H a xs)(h':aZ X.K H a ys):xs=ys:=by
 obtain⟨its,r,⟨o,e,_,n,d⟩,_⟩:=I.tuple h
 obtain⟨its',r',⟨o',e',_,n',d'⟩,_⟩:=I.tuple h'
 rw[e] at e';cases e'
 rw[d] at d'
 injection d' with d1 _
 have:its=its':=by simpa using congrArg HJ d1
 subst this
 exact r.inj r'
end
abbrev Cx.wish (X:Cx)(E:Value->AI->Prop):Cx:={X with xe:=E}
abbrev Cx.ql (X:Cx):Cx:=X.wish λ_ _=>False
theorem Cx.Ok.wish{X:Cx}(ok:X.Ok)(E:Value->AI->Prop):(X.wish E).Ok:=
 ⟨ok.mod,ok.kind,ok.glob,ok.blt,ok.above,ok.inj,ok.has,ok.cab,ok.hd,ok.frames,ok.stk,ok.Sj,ok.bs,ok.oE,ok.xr,ok.xt,ok.ic,ok.uN⟩
theorem Cx.Ok.ig{X:Cx}{E:Value->AI->Prop}(ok:(X.wish E).Ok):X.Ok:=
 ⟨ok.mod,ok.kind,ok.glob,ok.blt,ok.above,ok.inj,ok.has,ok.cab,ok.hd,ok.frames,ok.stk,ok.Sj,ok.bs,ok.oE,ok.xr,ok.xt,ok.ic,ok.uN⟩
section
variable{X:Cx}{pins:List (Addr×Obj)}{σ:St}{H:Hp}{s:AI}{E:Value->AI->Prop}
theorem Inv.wish(I:Inv X pins σ H s)(E:Value->AI->Prop):Inv (X.wish E) pins σ H s:=⟨I.ok.wish E,I.os,I.bare,I.base,I.loc,I.cell,I.free,I.gb,I.pin,I.hok,I.len⟩
theorem Inv.ig(I:Inv (X.wish E) pins σ H s):Inv X pins σ H s:=⟨I.ok.ig,I.os,I.bare,I.base,I.loc,I.cell,I.free,I.gb,I.pin,I.hok,I.len⟩
theorem SP.ig{D:Ends}{f:Flow}{s':AI}(h:SP (X.wish E) pins D f s'):SP X pins D f s':=by
 cases f with
 | next=>obtain⟨σ',H',I,q⟩:=h;exact⟨σ',H',I.ig,q⟩
 | brk=>obtain⟨σ',H',I,q⟩:=h;exact⟨σ',H',I.ig,q⟩
 | cont=>obtain⟨σ',H',I,q⟩:=h;exact⟨σ',H',I.ig,q⟩
 | ret u=>obtain⟨v,σ',H',I,r,q⟩:=h;exact⟨v,σ',H',I.ig,r,q⟩
theorem jE.ql{st:List Stmt}{t:TS}(h:jE X.ql st t):jE X st t:=λpins s σ H D I hw=>
 Bi (h pins s σ H D (I.wish _) hw) (λ_ _ q=>q.ig) λ_ _ z=>Be z
end
section
variable{X:Cx}{st:Stmt}{rest:List Stmt}{t u:TS}{e:Expr}{te:TE}{pos:Pos}
def jH:TS:=λD σ H=>D.nx σ H
def lJ(t u:TS):TS:=λD σ H=>t {D with nx:=u D} σ H
theorem cp:jE X [] jH:=λ_ _ σ H _ I h=>Eg ⟨σ,H,I,h⟩
theorem ai(h1:PS X st t)(h2:jE X rest u):jE X (st::rest) (lJ t u):=by
 intro pins s σ H D I h
 refine ES (aM (h1 pins s σ H {D with nx:=u D} I h) λf s1 q=>?_)
 cases f with
 | next=>
  obtain⟨σ',H',I',q⟩:=q
  exact h2 pins s1 σ' H' D I' q
 | ret v=>exact q
 | brk=>exact q
 | cont=>exact q
theorem av(h1:PS X st t):jE X [st] t:=by
 intro pins s σ H D I h
 refine ES (aM (h1 pins s σ H D I h) λf s1 q=>?_)
 cases f with
 | next=>exact Eg q
 | ret v=>exact q
 | brk=>exact q
 | cont=>exact q
theorem Inv.quiet{pins:List (Addr×Obj)}{σ:St}{H:Hp}{s:AI}(I:Inv X pins σ H s):interactive X.env=false:=by simp[interactive,I.ok.kind]
def Jy(te:TE):TS:=λD σ H=>te σ H λ_ H1=>D.nx σ H1
theorem cG(he:PE X e te)(hs:Gw e none pos.line X.env=pure false:=by rfl):PS X (.Expr e pos) (Jy te):=by
 intro pins s σ H D I h
 exact wpAny_Expr_any (aM (he pins s σ H _ I h) λv s1 ⟨x,H1,I1,r1,q1⟩=>⟨σ,H1,I1,q1⟩) I.quiet hs
def So(te:TE):TS:=λD σ H=>te σ H D.rt
theorem aQ(he:PE X e te):PS X (.Return (some e) pos) (So te):=by
 intro pins s σ H D I h
 exact wpAny_Return_some (aM (he pins s σ H _ I h) λv s1 ⟨x,H1,I1,r1,q1⟩=>⟨x,σ,H1,I1,r1,q1⟩)
def oI(c:TT)(t u:TS):TS:=λD σ H=>c σ H λb H1=>if b=true then t D σ H1 else u D σ H1
theorem dN{c:Expr}{a b:List Stmt}{tc:TT}(hc:PT X c tc)(ha:jE X a t)(hb:jE X b u):PS X (.If c a b pos) (oI tc t u):=by
 intro pins s σ H D I h
 refine wpAny_If (aM (hc pins s σ H _ I h) λd s1 ⟨H1,I1,q1⟩=>?_)
 cases d with
 | true=>exact ha pins s1 σ H1 D I1 q1
 | false=>exact hb pins s1 σ H1 D I1 q1
end
abbrev TG:=V->St->Hp->(St->Hp->Prop)->Prop
abbrev uQ:=List V->St->Hp->(St->Hp->Prop)->Prop
def PG(X:Cx)(target:Expr)(t:TG):Prop:=
 ∀(pins:List (Addr×Obj)) (s:AI) (σ:St) (H:Hp) (v:V) (u:Value) (Q:St->Hp->Prop),Inv X pins σ H s->RelV v u->t v σ H Q->
  wpAny (model X.prog X.w) X.A (assign target X.env u) (λ_ s'=>∃σ' H',Inv X pins σ' H' s'/\Q σ' H') X.xe s
def KN(X:Cx)(ts:List Expr)(t:uQ):Prop:=
 ∀(pins:List (Addr×Obj)) (s:AI) (σ:St) (H:Hp) (vs:List V) (us:List Value) (Q:St->Hp->Prop),Inv X pins σ H s->Vals vs us->t vs σ H Q->
  wpAny (model X.prog X.w) X.A (assignInOrder ((ET ts X.env).map (·.2)) us) (λ_ s'=>∃σ' H',Inv X pins σ' H' s'/\Q σ' H') X.xe s
section
variable{X:Cx}{pos:Pos}
def aJ(i:Nat):TG:=λv σ H Q=>Q (σ.set i (some v)) H
theorem aH{i:Nat}{x:Str}(hN:X.N.Nodup)(hi:X.N[i]? =some x)(hx:Loc X.env.scope x)(hf:X.fn x=true∨X.env.scope.names.lookup x=some .local:=by first | exact .inl rfl | exact .inr rfl | assumption):PG X (.Name x pos) (aJ i):=by
 intro pins s σ H v u Q I r h
 exact wpAny_assign_Name (mQ I hN hi hx r (λs' I'=>⟨_,H,I',h⟩) hf)
def Zn:uQ:=λvs σ H Q=>vs=[]/\Q σ H
def WO(t:TG)(u:uQ):uQ:=λvs σ H Q=>∃v r,vs=v::r/\t v σ H λσ' H'=>u r σ' H' Q
theorem iJ:KN X [] Zn:=by
 intro pins s σ H vs us Q I r h
 obtain⟨e,h⟩:=h
 subst e
 cases r
 exact assignInOrder_nil ⟨σ,H,I,h⟩
theorem cD{e:Expr}{es:List Expr}{t:TG}{u:uQ}(h1:PG X e t)(h2:KN X es u)
  (hs:(ET (e::es) X.env).map (·.2)=assign e X.env::(ET es X.env).map (·.2):=by rfl):KN X (e::es) (WO t u):=by
 intro pins s σ H vs us Q I r h
 obtain⟨v,vr,e1,h⟩:=h
 subst e1
 cases r with
 | cons r rr=>
  rw[hs]
  refine assignInOrder_cons (aM (h1 pins s σ H _ _ _ I r h) λ_ s1 ⟨σ1,H1,I1,q1⟩=>?_)
  exact h2 pins s1 σ1 H1 _ _ Q I1 rr q1
def Sq(K:AD)(n:Nat)(t:uQ):TG:=λv σ H Q=>∃a xs,v=.ref a/\aZ K H a xs/\xs.length=n/\t xs σ H Q
theorem xv{es:List Expr}{k:Nat}{t:uQ}{n:Nat}(hc:X.calm=true)(h:KN X es t)
  (hn:(ET es X.env).length=n:=by rfl) (hst:(ET es X.env).findIdx? (·.1)=none:=by rfl):PG X (.Tuple es k pos) (Sq X.K n t):=by
 intro pins s σ H v u Q I r hw
 obtain⟨a,xs,e1,hq,hl,hw⟩:=hw
 subst e1
 cases r
 obtain⟨its,rv,ht,hz⟩:=I.tuple hq
 refine assign_Tuple_tuple (I.ok.hd hc) ht (by simp[hn,<-hl,rv.length]) hst λh' hx=>?_
 have I1:Inv X pins σ H {s with heap:=h'}:=I.kept (t':=s.toks) λb o e=>hx b o (Ae (AN e)) e
 exact h pins _ σ H xs _ Q I1 (by simpa using rv) hw
def xx(te:TE)(g:TG):TS:=λD σ H=>te σ H λx H1=>g x σ H1 D.nx
theorem ay{i:Nat}{x:Str}{e:Expr}{te:TE}{pos':Pos}(hN:X.N.Nodup)(hi:X.N[i]? =some x)(hx:Loc X.env.scope x)(he:PE X e te)(hs:Gw e (some (.Name x pos')) pos.line X.env=pure false:=by rfl)(hf:X.fn x=true∨X.env.scope.names.lookup x=some .local:=by first | exact .inl rfl | exact .inr rfl | assumption):
  PS X (.Assign [.Name x pos'] e pos) (xx te (aJ i)):=by
 intro pins s σ H D I h
 refine wpAny_Assign_Name (aM (he pins s σ H _ I h) λv s1 ⟨y,H1,I1,r1,q1⟩=>?_) hs
 exact mQ I1 hN hi hx r1 (λs2 I2=>⟨_,H1,I2,q1⟩) hf
def lT(c:TT)(tb:TS):TS:=λD σ H=>∃W:Nat->St->Hp->Prop,(∃m,W m σ H)/\∀m σ H,W m σ H->
 c σ H λb H1=>if b=true then ∃N:St->Hp->Prop,(∀σ' H',N σ' H'->∃m',m'<m/\W m' σ' H')/\tb {D with nx:=N,ct:=N,bk:=D.nx} σ H1 else D.nx σ H1
theorem fN{c:Expr}{body:List Stmt}{tc:TT}{tb:TS}(hp:PassesOwn (model X.prog X.w) X.A X.env X.xe)(hc:PT X c tc)(hb:jE X body tb):PS X (.While c body [] pos) (lT tc tb):=by
 intro pins s σ H D I h
 obtain⟨W,⟨m0,w0⟩,turn⟩:=h
 refine wpAny_While (codeAny_whileLoop (λn s'=>∃σ' H',Inv X pins σ' H' s'/\W n σ' H') ?_ m0 ⟨σ,H,I,w0⟩)
 rintro n s1 ⟨σ1,H1,I1,w1⟩
 refine Cg hp (aM (hc pins s1 σ1 H1 _ I1 (turn n σ1 H1 w1)) λb s2 ⟨H2,I2,q2⟩=>?_)
 cases b with
 | true=>
  obtain⟨N,hN,q2⟩:=q2
  rw[if_pos rfl]
  refine Cg hp (aM (hb pins s2 σ1 H2 _ I2 q2) λf s3 q3=>?_)
  cases f with
  | next=>
   obtain⟨σ3,H3,I3,n3⟩:=q3
   obtain⟨m',hm,w3⟩:=hN σ3 H3 n3
   exact⟨m',hm,σ3,H3,I3,w3⟩
  | cont=>
   obtain⟨σ3,H3,I3,n3⟩:=q3
   obtain⟨m',hm,w3⟩:=hN σ3 H3 n3
   exact⟨m',hm,σ3,H3,I3,w3⟩
  | brk=>exact q3
  | ret v=>exact q3
 | false=>
  rw[if_neg Am]
  exact Eg ⟨σ1,H2,I2,q2⟩
end
structure It where
 go:Nat->Hp->Prop
 rE:Nat->Hp->V->Hp->Prop
 stop:Nat->Hp->Prop
def fK(X:Cx)(pins:List (Addr×Obj))(H:Hp)(b:Addr):Prop:=
 H b=none/\b≠X.env.locals/\b ∉ X.fs/\(b∈X.ex∨X.s₀.heap.objs.size<=b)/\(∀x c,X.env.cells.lookup x=some c->c≠b)/\∀p∈X.pn++pins,p.1≠b
theorem Inv.jZ{X:Cx}{pins:List (Addr×Obj)}{σ:St}{H H':Hp}{s:AI}{b:Addr}(I:Inv X pins σ H s)(hb:s.heap.objs.size<=b)(hn:H' b=none):fK X pins H' b:=by
 refine⟨hn,Bo (AY I.lt hb),I.Zh hb,.inr (BB I.sz hb),λx c e z=>?_,λp hp z=>?_⟩
 ·obtain⟨v,q⟩:=I.cell x c e
  exact absurd (AY q.lt (by rw[z];exact hb)) (BQ _)
 ·exact absurd (AY (AN (I.pin p hp).1) (by rw[z];exact hb)) (BQ _)
structure Turn (P:Ak)(w:World)(K:AD)(tg:Expr)(J:It)(fp:List Addr)(it:Addr)(tn:Nat->Heap->Prop):Prop where
 mem:it∈fp
 obj:∀i h,tn i h->∀b∈fp,∃o,h.get? b=some o/\∀v,o.data≠.cell v
 keep:∀i h h',tn i h->(∀b∈fp,∀o,h.get? b=some o->h'.get? b=some o)->tn i h'
 item:∀(X:Cx),X.prog=P->X.w=w->X.K=K->X.calm=true->∀(i:Nat) (pins:List (Addr×Obj)) (s:AI) (σ:St) (H:Hp) (E:Value->AI->Prop),Inv X pins σ H s->(∀b∈fp,fK X pins H b)->tn i s.heap->J.go i H->
  wpAny (model P w) X.A (Ce (.ref it)) (λr s1=>∃u,r=some u/\
   wpAny (model P w) X.A (Eh tg (.ref it) u) (λ_ s2=>∃x H',Inv X pins σ H' s2/\RelV x u/\J.rE i H x H'/\tn (i+1) s2.heap/\∀b∈fp,H' b=none) E s1) E s
 done:∀(X:Cx),X.prog=P->X.w=w->X.K=K->X.calm=true->∀(i:Nat) (pins:List (Addr×Obj)) (s:AI) (σ:St) (H:Hp) (E:Value->AI->Prop),Inv X pins σ H s->(∀b∈fp,fK X pins H b)->tn i s.heap->J.stop i H->
  wpAny (model P w) X.A (Ce (.ref it)) (λr s1=>r=none/\Inv X pins σ H s1) E s
 self:∀(A:A9) (i:Nat) (s:AI) (Q:Value->AI->Prop) (E:Value->AI->Prop),tn i s.heap->Q (.ref it) s->wpAny (model P w) A (pyIter (.ref it)) Q E s
abbrev TI:=St->Hp->(It->Hp->Prop)->Prop
def PIE(X:Cx)(pins:List (Addr×Obj))(σ:St)(tg:Expr)(R:It->Hp->Prop)(itv:Value)(s2:AI):Prop:=
 ∃(it:Addr) (fp:List Addr) (tn:Nat->Heap->Prop) (J:It) (H':Hp),itv=.ref it/\Inv X pins σ H' s2/\Turn X.prog X.w X.K tg J fp it tn/\tn 0 s2.heap/\(∀b∈fp,fK X pins H' b)/\R J H'
def PI(X:Cx)(tg iter:Expr)(wi:TI):Prop:=
 ∀(pins:List (Addr×Obj)) (s:AI) (σ:St) (H:Hp) (R:It->Hp->Prop),Inv X pins σ H s->wi σ H R->
  wpAny (model X.prog X.w) X.A (eval iter X.env) (λv s1=>wpAny (model X.prog X.w) X.A (pyIter v) (PIE X pins σ tg R) X.xe s1) X.xe s
theorem xj{M:Model}{A:A9}{E:Value->AI->Prop}{s:AI}{tg:Expr}{it:Addr}{u:Value}{o:Obj}{n:String}{vs:Array Value}{Q:Unit->AI->Prop}(ho:s.heap.get? it=some o)(hc:o.cls=.type n)(hd:o.data=.fields vs)
  (hn:["enumerate","zip","dict_itemiterator","dict_reverseitemiterator","odict_iterator","itertools.zip_longest","itertools.pairwise"].contains n=false) (hQ:Q () s):wpAny M A (Eh tg (.ref it) u) Q E s:=by
 unfold Eh
 cases tg<;>first
  | exact AH hQ
  | (cases u<;>first
    | exact AH hQ
    | (refine AA (wpAny_load ho ?_)
       rw[hc,hd]
       show wpAny M A (if(["enumerate","zip","dict_itemiterator","dict_reverseitemiterator","odict_iterator","itertools.zip_longest","itertools.pairwise"].contains n&&vs[0]? == some (Aq _))=true then _ else _) Q E s
       rw[if_neg (by intro h;rw[hn,Bool.false_and] at h;cases h)]
       exact AH hQ))
def Ie(K:AD)(a:Addr):It:=
 ⟨λi H=>∃xs x,bz K H a xs/\xs[i]? =some x,λi H x H'=>H'=H/\∀xs,bz K H a xs->xs[i]? =some x,λi H=>∃xs,bz K H a xs/\xs.length<=i⟩
def xy(K:AD)(a:Addr):It:=
 ⟨λi H=>∃xs x,aZ K H a xs/\xs[i]? =some x,λi H x H'=>H'=H/\∀xs,aZ K H a xs->xs[i]? =some x,λi H=>∃xs,aZ K H a xs/\xs.length<=i⟩
def uR(lo:Int)(n:Nat):It:=⟨λi _=>i<n,λi H x H'=>H'=H/\x=.int (lo+i),λi _=>n<=i⟩
theorem KO{P:Ak}{w:World}{K:AD}{tg:Expr}(a it:Addr):Turn P w K tg (Ie K a) [it] it (λi h=>h.IsListIter it a i) where
 mem:=by simp
 obj:=λi h st b hb=>by
  have e:b=it:=by simpa using hb
  subst e
  obtain⟨o,e,c,d⟩:=st
  exact⟨o,e,λv z=>by rw[d] at z;cases z⟩
 keep:=λi h h' st k=>st.at λo e=>k it (by simp) o e
 item:=by
  intro X hP hw hK hc i pins s σ H E I hf st hg
  subst hP hw hK
  obtain⟨xs,x,hq,hx⟩:=hg
  obtain⟨its,rv,p,hz⟩:=I.list hq
  obtain⟨u,hu,ru⟩:=rv.get hx
  obtain⟨f0,f1,f2,f3,f4,f5⟩:=hf it (by simp)
  refine wpAny_pyNext_list_item st p.isList (x:=u) (by simpa using hu) λh' st' sb=>?_
  have I1:Inv X pins σ H {s with heap:=h'}:=I.turned (t':=s.toks) (λb o hb e=>(sb.2 b hb).trans e) f0 f1 f3 f4 f5
  obtain⟨o,e,c,d⟩:=id st'
  exact⟨u,rfl,xj (s:={s with heap:=h'}) e c d (by decide) ⟨x,H,I1,ru,⟨rfl,λys hy=>by rw[I.iI hy hq];exact hx⟩,st',λb hb=>(hf b hb).1⟩⟩
 done:=by
  intro X hP hw hK hc i pins s σ H E I hf st hg
  subst hP hw hK
  obtain⟨xs,hq,hx⟩:=hg
  obtain⟨its,rv,p,hz⟩:=I.list hq
  obtain⟨f0,f1,f2,f3,f4,f5⟩:=hf it (by simp)
  have hl:=rv.length
  exact wpAny_pyNext_list_end (I.ok.hd hc) st p.isList (by simp;omega) λh' eb=>⟨rfl,I.turned (t':=s.toks) (λb o hb e=>eb b o hb e) f0 f1 f3 f4 f5⟩
 self:=λ_ _ _ _ _ st h=>wpAny_pyIter_listiter st h
theorem Jz{P:Ak}{w:World}{K:AD}{tg:Expr}(a it:Addr):Turn P w K tg (xy K a) [it] it (λi h=>h.IsTupleIter it a i) where
 mem:=by simp
 obj:=λi h st b hb=>by
  have e:b=it:=by simpa using hb
  subst e
  obtain⟨o,e,c,d⟩:=st
  exact⟨o,e,λv z=>by rw[d] at z;cases z⟩
 keep:=λi h h' st k=>st.at λo e=>k it (by simp) o e
 item:=by
  intro X hP hw hK hc i pins s σ H E I hf st hg
  subst hP hw hK
  obtain⟨xs,x,hq,hx⟩:=hg
  obtain⟨its,rv,p,hz⟩:=I.tuple hq
  obtain⟨u,hu,ru⟩:=rv.get hx
  obtain⟨f0,f1,f2,f3,f4,f5⟩:=hf it (by simp)
  refine wpAny_pyNext_tuple_item st (show s.heap.IsTuple a its.toArray from p) (x:=u) (by simpa using hu) λh' st' sb=>?_
  have I1:Inv X pins σ H {s with heap:=h'}:=I.turned (t':=s.toks) (λb o hb e=>(sb.2 b hb).trans e) f0 f1 f3 f4 f5
  obtain⟨o,e,c,d⟩:=id st'
  exact⟨u,rfl,xj (s:={s with heap:=h'}) e c d (by decide) ⟨x,H,I1,ru,⟨rfl,λys hy=>by rw[I.jc hy hq];exact hx⟩,st',λb hb=>(hf b hb).1⟩⟩
 done:=by
  intro X hP hw hK hc i pins s σ H E I hf st hg
  subst hP hw hK
  obtain⟨xs,hq,hx⟩:=hg
  obtain⟨its,rv,p,hz⟩:=I.tuple hq
  obtain⟨f0,f1,f2,f3,f4,f5⟩:=hf it (by simp)
  have hl:=rv.length
  exact wpAny_pyNext_tuple_end (I.ok.hd hc) st (show s.heap.IsTuple a its.toArray from p) (by simp;omega) λh' eb=>⟨rfl,I.turned (t':=s.toks) (λb o hb e=>eb b o hb e) f0 f1 f3 f4 f5⟩
 self:=λ_ _ _ _ _ st h=>wpAny_pyIter_tupleiter st h
theorem JA{P:Ak}{w:World}{K:AD}{tg:Expr}(it:Addr)(lo:Int)(n:Nat):Turn P w K tg (uR lo n) [it] it (λi h=>IsRangeIter h it (lo+(i:Nat)*1) ((n:Int)-(i:Nat)) 1) where
 mem:=by simp
 obj:=λi h st b hb=>by
  have e:b=it:=by simpa using hb
  subst e
  exact⟨_,st,λv z=>by
   have z':Data.fields _=Data.cell v:=z
   cases z'⟩
 keep:=λi h h' st k=>k it (by simp) _ st
 item:=by
  intro X hP hw hK hc i pins s σ H E I hf st hg
  subst hP hw hK
  obtain⟨f0,f1,f2,f3,f4,f5⟩:=hf it (by simp)
  have W:=Walks.range (prog:=X.prog) (w:=X.w) (I.ok.hd hc) it lo 1 n
  refine W.item i s _ _ hg st λv h' tk hv st' kk=>?_
  obtain⟨t,rfl⟩:=hv
  have I1:Inv X pins σ H {s with heap:=h',toks:=tk}:=I.turned (λb o hb e=>kk b o (by simpa using hb) e) f0 f1 f3 f4 f5
  refine⟨_,rfl,xj (s:={s with heap:=h',toks:=tk}) (n:="range_iterator") st' rfl rfl (by decide) ⟨.int (lo+i),H,I1,⟨t,?_⟩,⟨rfl,rfl⟩,st',λb hb=>(hf b hb).1⟩⟩
  rw[Int.mul_one]
 done:=by
  intro X hP hw hK hc i pins s σ H E I hf st hg
  subst hP hw hK
  obtain⟨f0,f1,f2,f3,f4,f5⟩:=hf it (by simp)
  exact wpAny_pyNext_range_end (I.ok.hd hc) st (by have:n<=i:=hg;omega) λh' eb=>⟨rfl,I.turned (t':=s.toks) (λb o hb e=>eb b o hb e) f0 f1 f3 f4 f5⟩
 self:=λ_ _ _ _ _ st h=>wpAny_pyIter_rangeiter st h
section
variable{X:Cx}{tg:Expr}
def WQ(K:AD)(tl:TE):TI:=λσ H R=>tl σ H λx H1=>∃a,x=.ref a/\(∃xs,bz K H1 a xs)/\R (Ie K a) H1
def Zo(K:AD)(tl:TE):TI:=λσ H R=>tl σ H λx H1=>∃a,x=.ref a/\(∃xs,aZ K H1 a xs)/\R (xy K a) H1
theorem cH{l:Expr}{tl:TE}(hl:PE X l tl):PI X tg l (WQ X.K tl):=by
 intro pins s σ H R I h
 refine aM (hl pins s σ H _ I h) λv s1 ⟨x,H1,I1,r1,q1⟩=>?_
 obtain⟨a,e,⟨xs,hq⟩,q⟩:=q1
 subst e
 cases r1
 obtain⟨its,rv,p,hz⟩:=I1.list hq
 refine DN p.isList ?_
 refine⟨s1.heap.objs.size,[s1.heap.objs.size],_,_,H1,rfl,I1.kept (t':=s1.toks) λb o e=>AE _ e,KO a _,⟨_,AO _ rfl,rfl,rfl⟩,λb hb=>?_,q⟩
 have e:b=s1.heap.objs.size:=by simpa using hb
 subst e
 exact I1.jZ (AM _) (I1.hok.fresh (AM _))
theorem fO{l:Expr}{tl:TE}(hl:PE X l tl):PI X tg l (Zo X.K tl):=by
 intro pins s σ H R I h
 refine aM (hl pins s σ H _ I h) λv s1 ⟨x,H1,I1,r1,q1⟩=>?_
 obtain⟨a,e,⟨xs,hq⟩,q⟩:=q1
 subst e
 cases r1
 obtain⟨its,rv,p,hz⟩:=I1.tuple hq
 refine C8 (show s1.heap.IsTuple a its.toArray from p) ?_
 refine⟨s1.heap.objs.size,[s1.heap.objs.size],_,_,H1,rfl,I1.kept (t':=s1.toks) λb o e=>AE _ e,Jz a _,⟨_,AO _ rfl,rfl,rfl⟩,λb hb=>?_,q⟩
 have e:b=s1.heap.objs.size:=by simpa using hb
 subst e
 exact I1.jZ (AM _) (I1.hok.fresh (AM _))
theorem Nn{pins:List (Addr×Obj)}{σ:St}{H:Hp}{s:AI}{R:It->Hp->Prop}{E:Value->AI->Prop}{lo hi:Int}{t u v:Tok}{tk:Nat}(I:Inv X pins σ H s)(h1: -(2 ^ 62)<=lo)(h2:lo<2 ^ 62)(h3: -(2 ^ 62)<=hi)(h4:hi<2 ^ 62)
  (q:R (uR lo (hi-lo).toNat) H):wpAny (model X.prog X.w) X.A (pyIter (.ref s.heap.objs.size)) (PIE X pins σ tg R) E {s with heap:=s.heap.push {cls:=.type "range",data:=.fields #[.int lo t,.int hi u,.int 1 v]},toks:=tk}:=by
 refine wpAny_pyIter_range (IsRange.new ..) (small_one h1 h2 h3 h4) ?_
 have I1:Inv X pins σ H {s with heap:=s.heap.push {cls:=.type "range",data:=.fields #[.int lo t,.int hi u,.int 1 v]},toks:=tk}:=I.kept λb o e=>AE _ e
 refine⟨(s.heap.push {cls:=.type "range",data:=.fields #[.int lo t,.int hi u,.int 1 v]}).objs.size,[(s.heap.push {cls:=.type "range",data:=.fields #[.int lo t,.int hi u,.int 1 v]}).objs.size],_,_,H,rfl,
  I1.kept (t':=tk) λb o e=>AE _ e,JA _ lo (hi-lo).toNat,?_,λb hb=>?_,q⟩
 ·have e1:lo+((0:Nat):Int)*1=lo:=by simp
  have e2:(((hi-lo).toNat:Nat):Int)-((0:Nat):Int)=Builtin.Range.rangeSize lo hi 1:=by rw[rangeSize_one];split<;>omega
  show IsRangeIter _ _ (lo+((0:Nat):Int)*1) ((((hi-lo).toNat:Nat):Int)-((0:Nat):Int)) 1
  rw[e1,e2]
  exact AO _ rfl
 ·have e:b=(s.heap.push {cls:=.type "range",data:=.fields #[.int lo t,.int hi u,.int 1 v]}).objs.size:=by simpa using hb
  subst e
  exact I1.jZ (AM _) (I1.hok.fresh (AM _))
def WR(ta:TA):TI:=λσ H R=>ta σ H λvs H1=>∃j:Int,vs=[.int j]/\ -(2 ^ 62)<=j/\j<2 ^ 62/\R (uR 0 j.toNat) H1
theorem cj{a:Expr}{ta:TA}{p pos:Pos}(hg:Gl X "range")(hm:X.mg "range"=none)(ha:PA X [a] ta)(hs:BC [a] X.env=[(false,eval a X.env)]:=by rfl):PI X tg (.Call (.Name "range" p) [a] [] pos) (WR ta):=by
 intro pins s σ H R I h
 refine Call_ (gy I hg hm boot_range (BO (aM (ha pos pins s σ H _ I h) λus s1 ⟨vs,H1,I1,r1,q1⟩=>?_) hs rfl))
 obtain⟨j,e,q1,q2,q⟩:=q1
 subst e
 cases r1 with
 | cons r rr=>
  cases rr
  obtain⟨t,rfl⟩:=r
  exact call_range_1 (Nn I1 (by omega) (by omega) q1 q2 (by simpa using q))
def Zp(wi:TI)(g:TG)(tb:TS):TS:=λD σ H=>wi σ H λJ H1=>∃W:Nat->Nat->St->Hp->Prop,(∃m,W 0 m σ H1)/\∀i m σ H,W i m σ H->
 (J.stop i H/\D.nx σ H)∨(J.go i H/\∃N:St->Hp->Prop,(∀σ' H',N σ' H'->∃m',m'<m/\W (i+1) m' σ' H')/\∀x H',J.rE i H x H'->g x σ H' λσ2 H2=>tb {D with nx:=N,ct:=N,bk:=D.nx} σ2 H2)
def oJ(fp:List Addr)(h:Heap):List (Addr×Obj):=fp.filterMap λb=>(h.get? b).map λo=>(b,o)
theorem jI{fp:List Addr}{h:Heap}{b:Addr}{o:Obj}(hb:b∈fp)(e:h.get? b=some o):(b,o)∈oJ fp h:=List.mem_filterMap.mpr ⟨b,hb,by rw[e];rfl⟩
theorem KP{fp:List Addr}{h:Heap}{p:Addr×Obj}(hp:p∈oJ fp h):p.1∈fp/\h.get? p.1=some p.2:=by
 obtain⟨b,hb,e⟩:=List.mem_filterMap.mp hp
 cases q:h.get? b with
 | none=>rw[q] at e;cases e
 | some o=>
  rw[q] at e
  have e':(b,o)=p:=AS e
  subst e'
  exact⟨hb,q⟩
theorem Inv.pinned{pins:List (Addr×Obj)}{σ:St}{H:Hp}{s:AI}{fp:List Addr}(I:Inv X pins σ H s)(hf:∀b∈fp,fK X pins H b)(ho:∀b∈fp,∃o,s.heap.get? b=some o/\∀v,o.data≠.cell v):Inv X (pins++oJ fp s.heap) σ H s:=
 I.Ib λp hp=>(Ab.mp hp).elim (λz=>I.pin p (BW _ z)) λz=>by
  obtain⟨hb,e⟩:=KP z
  obtain⟨f0,f1,f2,_⟩:=hf p.1 hb
  obtain⟨o,e',d⟩:=ho p.1 hb
  rw[e] at e';cases e'
  exact⟨e,f0,f1,f2,d⟩
theorem Inv.mR{pins pl:List (Addr×Obj)}{σ:St}{H:Hp}{s:AI}(I:Inv X (pins++pl) σ H s):Inv X pins σ H s:=I.Ib λp hp=>I.pin p (BW _ (Gb _ hp))
theorem dg{iter:Expr}{body:List Stmt}{wi:TI}{g:TG}{tb:TS}{pos:Pos}(hp:PassesOwn (model X.prog X.w) X.A X.env X.xe)(hc:X.calm=true)(hi:PI X tg iter wi)(hg:PG X tg g)(hb:jE X body tb)
  (hs:∀x,FL iter X.env x=pure x:=by intro _;rfl):PS X (.For tg iter body [] pos) (Zp wi g tb):=by
 intro pins s σ H D I h
 refine wpAny_For (aM (hi pins s σ H _ I h) λv s1 h1=>aM h1 λitv s2 h2=>?_) hs
 obtain⟨it,fp,tn,J,H2,e,I2,T,st2,f2,W,⟨m0,w0⟩,turn⟩:=h2
 subst e
 have stat:∀{H':Hp},(∀b∈fp,H' b=none)->∀b∈fp,fK X pins H' b:=λhn b hb=>⟨hn b hb,(f2 b hb).2⟩
 refine codeAny_forLoop_any (λn s'=>∃i σ' H',Inv X pins σ' H' s'/\tn i s'.heap/\(∀b∈fp,H' b=none)/\W i n σ' H') ?_ m0 ⟨0,σ,H2,I2,st2,λb hb=>(f2 b hb).1,w0⟩
 rintro n s3 ⟨i,σ3,H3,I3,st3,XN,w3⟩
 rcases turn i n σ3 H3 w3 with⟨stop,qn⟩ | ⟨go,N,hN,step⟩
 ·refine Cg hp (aM (T.done X rfl rfl rfl hc i pins s3 σ3 H3 X.xe I3 (stat XN) st3 stop) λr s4 ⟨hr,I4⟩=>?_)
  subst hr
  exact Eg ⟨σ3,H3,I4,qn⟩
 ·refine Cg hp (aM (T.item X rfl rfl rfl hc i pins s3 σ3 H3 X.xe I3 (stat XN) st3 go) λr s4 ⟨u,hr,h4⟩=>?_)
  subst hr
  refine Cg hp (aM h4 λ_ s5 ⟨x,H5,I5,r5,y5,Ig,Pj⟩=>?_)
  have I5':=I5.pinned (stat Pj) (T.obj _ _ Ig)
  refine Cg hp (aM (hg _ s5 σ3 H5 x u _ I5' r5 (step x H5 y5)) λ_ s6 ⟨σ6,H6,I6,q6⟩=>?_)
  refine Cg hp (aM (hb _ s6 σ6 H6 _ I6 q6) λf s7 q7=>?_)
  have again:∀{σ7:St} {H7:Hp},Inv X (pins++oJ fp s5.heap) σ7 H7 s7->N σ7 H7->∃m,m<n/\∃i σ' H',Inv X pins σ' H' s7/\tn i s7.heap/\(∀b∈fp,H' b=none)/\W i m σ' H':=λ{σ7 H7} I7 n7=>by
   obtain⟨m',hm,w7⟩:=hN σ7 H7 n7
   refine⟨m',hm,i+1,σ7,H7,I7.mR,T.keep _ _ _ Ig λb hb o e=>(I7.pin (b,o) (BW _ (BW _ (jI hb e)))).1,λb hb=>?_,w7⟩
   obtain⟨o,e,d⟩:=T.obj _ _ Ig b hb
   exact(I7.pin (b,o) (BW _ (BW _ (jI hb e)))).2.1
  cases f with
  | next=>obtain⟨σ7,H7,I7,n7⟩:=q7;exact again I7 n7
  | cont=>obtain⟨σ7,H7,I7,n7⟩:=q7;exact again I7 n7
  | brk=>obtain⟨σ7,H7,I7,q7⟩:=q7;exact⟨σ7,H7,I7.mR,q7⟩
  | ret v=>obtain⟨x7,σ7,H7,I7,r7,q7⟩:=q7;exact⟨x7,σ7,H7,I7.mR,r7,q7⟩
end
theorem iK{K:AD}{a:Addr}{xs:List V}{g:TG}{tb:TS}{D:Ends}{σ:St}{H:Hp}(Pv:Nat->St->Hp->Prop)(h0:Pv 0 σ H)(hl:∀i σ H,i<=xs.length->Pv i σ H->bz K H a xs)
  (hs:∀i x σ H,xs[i]? =some x->Pv i σ H->g x σ H λσ2 H2=>tb {D with nx:=Pv (i+1),ct:=Pv (i+1),bk:=D.nx} σ2 H2) (hd:∀σ H,Pv xs.length σ H->D.nx σ H):
  ∃W:Nat->Nat->St->Hp->Prop,(∃m,W 0 m σ H)/\∀i m σ H,W i m σ H->
   ((Ie K a).stop i H/\D.nx σ H)∨((Ie K a).go i H/\∃N:St->Hp->Prop,(∀σ' H',N σ' H'->∃m',m'<m/\W (i+1) m' σ' H')/\∀x H',(Ie K a).rE i H x H'->g x σ H' λσ2 H2=>tb {D with nx:=N,ct:=N,bk:=D.nx} σ2 H2):=by
 refine⟨λi m σ H=>m=xs.length-i/\i<=xs.length/\Pv i σ H,⟨xs.length,by simp,BG _,h0⟩,?_⟩
 rintro i m σ H ⟨rfl,hi,p⟩
 have q:=hl i σ H hi p
 by_cases hlt:i<xs.length
 ·refine .inr ⟨⟨xs,xs[i],q,by simp[hlt]⟩,Pv (i+1),λσ' H' p'=>⟨xs.length-(i+1),by omega,rfl,hlt,p'⟩,λx H' y=>?_⟩
  obtain⟨e,y⟩:=y
  subst e
  exact hs i x σ _ (y xs q) p
 ·have e:i=xs.length:=by omega
  subst e
  exact .inl ⟨⟨xs,q,AM _⟩,hd σ H p⟩
theorem Ih{K:AD}{a:Addr}{xs:List V}{g:TG}{tb:TS}{D:Ends}{σ:St}{H:Hp}(Pv:Nat->St->Hp->Prop)(h0:Pv 0 σ H)(hl:∀i σ H,i<=xs.length->Pv i σ H->aZ K H a xs)
  (hs:∀i x σ H,xs[i]? =some x->Pv i σ H->g x σ H λσ2 H2=>tb {D with nx:=Pv (i+1),ct:=Pv (i+1),bk:=D.nx} σ2 H2) (hd:∀σ H,Pv xs.length σ H->D.nx σ H):
  ∃W:Nat->Nat->St->Hp->Prop,(∃m,W 0 m σ H)/\∀i m σ H,W i m σ H->
   ((xy K a).stop i H/\D.nx σ H)∨((xy K a).go i H/\∃N:St->Hp->Prop,(∀σ' H',N σ' H'->∃m',m'<m/\W (i+1) m' σ' H')/\∀x H',(xy K a).rE i H x H'->g x σ H' λσ2 H2=>tb {D with nx:=N,ct:=N,bk:=D.nx} σ2 H2):=by
 refine⟨λi m σ H=>m=xs.length-i/\i<=xs.length/\Pv i σ H,⟨xs.length,by simp,BG _,h0⟩,?_⟩
 rintro i m σ H ⟨rfl,hi,p⟩
 have q:=hl i σ H hi p
 by_cases hlt:i<xs.length
 ·refine .inr ⟨⟨xs,xs[i],q,by simp[hlt]⟩,Pv (i+1),λσ' H' p'=>⟨xs.length-(i+1),by omega,rfl,hlt,p'⟩,λx H' y=>?_⟩
  obtain⟨e,y⟩:=y
  subst e
  exact hs i x σ _ (y xs q) p
 ·have e:i=xs.length:=by omega
  subst e
  exact .inl ⟨⟨xs,q,AM _⟩,hd σ H p⟩
theorem kH{lo:Int}{n:Nat}{g:TG}{tb:TS}{D:Ends}{σ:St}{H:Hp}(Pv:Nat->St->Hp->Prop)(h0:Pv 0 σ H)
  (hs:∀i σ H,i<n->Pv i σ H->g (.int (lo+i)) σ H λσ2 H2=>tb {D with nx:=Pv (i+1),ct:=Pv (i+1),bk:=D.nx} σ2 H2) (hd:∀σ H,Pv n σ H->D.nx σ H):
  ∃W:Nat->Nat->St->Hp->Prop,(∃m,W 0 m σ H)/\∀i m σ H,W i m σ H->
   ((uR lo n).stop i H/\D.nx σ H)∨((uR lo n).go i H/\∃N:St->Hp->Prop,(∀σ' H',N σ' H'->∃m',m'<m/\W (i+1) m' σ' H')/\∀x H',(uR lo n).rE i H x H'->g x σ H' λσ2 H2=>tb {D with nx:=N,ct:=N,bk:=D.nx} σ2 H2):=by
 refine⟨λi m σ H=>m=n-i/\i<=n/\Pv i σ H,⟨n,by simp,BG _,h0⟩,?_⟩
 rintro i m σ H ⟨rfl,hi,p⟩
 by_cases hlt:i<n
 ·refine .inr ⟨hlt,Pv (i+1),λσ' H' p'=>⟨n-(i+1),by omega,rfl,hlt,p'⟩,λx H' y=>?_⟩
  obtain⟨e,y⟩:=y
  subst e y
  exact hs i σ _ hlt p
 ·have e:i=n:=by omega
  subst e
  exact .inl ⟨AM _,hd σ H p⟩
theorem Np{c:TT}{tb:TS}{D:Ends}{σ:St}{H:Hp}(Pv:St->Hp->Prop)(μ:St->Hp->Nat)(h0:Pv σ H)
  (hs:∀σ H,Pv σ H->c σ H λb H1=>if b=true then tb {D with nx:=λσ' H'=>Pv σ' H'/\μ σ' H'<μ σ H,ct:=λσ' H'=>Pv σ' H'/\μ σ' H'<μ σ H,bk:=D.nx} σ H1 else D.nx σ H1)
  (mono:∀σ H Q Q',(∀b H1,Q b H1->Q' b H1)->c σ H Q->c σ H Q'):lT c tb D σ H:=by
 refine⟨λm σ H=>m=μ σ H/\Pv σ H,⟨_,rfl,h0⟩,?_⟩
 rintro m σ H ⟨rfl,p⟩
 refine mono σ H _ _ (λb H1 q=>?_) (hs σ H p)
 cases b with
 | true=>exact⟨_,λσ' H' ⟨p',l⟩=>⟨_,l,rfl,p'⟩,q⟩
 | false=>exact q
abbrev R2:=V->V->Hp->VK->Prop
def dm(X:Cx)(f:Value->Value->Sem Value)(r:R2):Prop:=
 ∀(pins:List (Addr×Obj)) (s:AI) (σ:St) (H:Hp) (x y:V) (v u:Value) (Q:VK),Inv X pins σ H s->RelV x v->RelV y u->r x y H Q->
  wpAny (model X.prog X.w) X.A (f v u) (EP X pins σ Q) X.xe s
def Sr(X:Cx)(f:Value->Sem Value)(r:V->Hp->VK->Prop):Prop:=
 ∀(pins:List (Addr×Obj)) (s:AI) (σ:St) (H:Hp) (x:V) (v:Value) (Q:VK),Inv X pins σ H s->RelV x v->r x H Q->
  wpAny (model X.prog X.w) X.A (f v) (EP X pins σ Q) X.xe s
def cS(X:Cx)(f:Value)(r:List V->Hp->VK->Prop):Prop:=
 ∀(pins:List (Addr×Obj)) (s:AI) (σ:St) (H:Hp) (xs:List V) (us:List Value) (Q:VK),Inv X pins σ H s->Vals xs us->r xs H Q->
  wpAny (model X.prog X.w) X.A (call f us) (EP X pins σ Q) X.xe s
def Zq(X:Cx)(r:V->Hp->(Bool->Hp->Prop)->Prop):Prop:=
 ∀(pins:List (Addr×Obj)) (s:AI) (σ:St) (H:Hp) (x:V) (v:Value) (Q:Bool->Hp->Prop),Inv X pins σ H s->RelV x v->r x H Q->
  wpAny (model X.prog X.w) X.A (truthy v) (TP X pins σ Q) X.xe s
def Pk(r:R2)(ta tb:TE):TE:=λσ H Q=>ta σ H λx H1=>tb σ H1 λy H2=>r x y H2 Q
def tUn(r:V->Hp->VK->Prop)(ta:TE):TE:=λσ H Q=>ta σ H λx H1=>r x H1 Q
def rI(C:Int->Int->Prop)(g:Int->Int->V):R2:=λx y H Q=>∃i j,x=.int i/\y=.int j/\C i j/\Q (g i j) H
def uS(g:Int->Int->V):R2:=λx y H Q=>∃i j,x=.int i/\y=.int j/\Q (g i j) H
def rU(g:Int->V):V->Hp->VK->Prop:=λx H Q=>∃i,x=.int i/\Q (g i) H
section
variable{X:Cx}{a b c:Expr}{ta tb tc:TE}{pos:Pos}
theorem Nq(ha:PE X a ta)(hb:PE X b tb){pins:List (Addr×Obj)}{s:AI}{σ:St}{H:Hp}{R:V->V->Hp->Prop}(I:Inv X pins σ H s)
  (h:ta σ H λx H1=>tb σ H1 λy H2=>R x y H2) {Q:Value->AI->Prop} {f:Value->Value->Sem Value}
  (hf:∀v u s2 x y H2,Inv X pins σ H2 s2->RelV x v->RelV y u->R x y H2->wpAny (model X.prog X.w) X.A (f v u) Q X.xe s2):
  wpAny (model X.prog X.w) X.A (eval a X.env) (λv s₁=>wpAny (model X.prog X.w) X.A (eval b X.env) (λu s₂=>wpAny (model X.prog X.w) X.A (f v u) Q X.xe s₂) X.xe s₁) X.xe s:=by
 refine aM (ha pins s σ H _ I h) λv s1 ⟨x,H1,I1,r1,q1⟩=>?_
 refine aM (hb pins s1 σ H1 _ I1 q1) λu s2 ⟨y,H2,I2,r2,q2⟩=>?_
 exact hf v u s2 x y H2 I2 r1 r2 q2
theorem aV{op:Operator}{r:R2}(ho:dm X (CU op) r)(ha:PE X a ta)(hb:PE X b tb):PE X (.BinOp a op b pos) (Pk r ta tb):=by
 intro pins s σ H Q I h
 exact wpAny_BinOp (Nq ha hb I h λv u s2 x y H2 I2 rx ry q=>ho pins s2 σ H2 x y v u Q I2 rx ry q)
theorem xk{op:UnaryOp}{r:V->Hp->VK->Prop}(ho:Sr X (unaryOp op) r)(ha:PE X a ta):PE X (.UnaryOp op a pos) (tUn r ta):=by
 intro pins s σ H Q I h
 exact UnaryOp_ (aM (ha pins s σ H _ I h) λv s1 ⟨x,H1,I1,r1,q1⟩=>ho pins s1 σ H1 x v Q I1 r1 q1)
theorem Pl{f:Value->Value->Sem Value}{C:Int->Int->Prop}{g:Int->Int->Int}
  (rule:∀(i j:Int) (t u:Tok) (s:AI) (Q:Value->AI->Prop) (E:Value->AI->Prop),C i j->Q (.int (g i j) s.toks) {s with toks:=s.toks+1}->wpAny (model X.prog X.w) X.A (f (.int i t) (.int j u)) Q E s):
  dm X f (rI C λi j=>.int (g i j)):=by
 intro pins s σ H x y v u Q I rx ry h
 obtain⟨i,j,rfl,rfl,hc,q⟩:=h
 obtain⟨t,rfl⟩:=rx
 obtain⟨t',rfl⟩:=ry
 exact rule i j t t' s _ _ hc ⟨.int (g i j),H,I.tok _,⟨_,rfl⟩,q⟩
theorem Ss{f:Value->Value->Sem Value}{g:Int->Int->Int}
  (rule:∀(i j:Int) (t u:Tok) (s:AI) (Q:Value->AI->Prop) (E:Value->AI->Prop),Q (.int (g i j) s.toks) {s with toks:=s.toks+1}->wpAny (model X.prog X.w) X.A (f (.int i t) (.int j u)) Q E s):
  dm X f (uS λi j=>.int (g i j)):=by
 intro pins s σ H x y v u Q I rx ry h
 obtain⟨i,j,rfl,rfl,q⟩:=h
 obtain⟨t,rfl⟩:=rx
 obtain⟨t',rfl⟩:=ry
 exact rule i j t t' s _ _ ⟨.int (g i j),H,I.tok _,⟨_,rfl⟩,q⟩
theorem JB{f:Value->Value->Sem Value}{g:Int->Int->Bool}
  (rule:∀(i j:Int) (t u:Tok) (s:AI) (Q:Value->AI->Prop) (E:Value->AI->Prop),Q (.bool (g i j)) s->wpAny (model X.prog X.w) X.A (f (.int i t) (.int j u)) Q E s):
  dm X f (uS λi j=>.bl (g i j)):=by
 intro pins s σ H x y v u Q I rx ry h
 obtain⟨i,j,rfl,rfl,q⟩:=h
 obtain⟨t,rfl⟩:=rx
 obtain⟨t',rfl⟩:=ry
 exact rule i j t t' s _ _ ⟨.bl (g i j),H,I,rfl,q⟩
def Zr(i j:Int):Prop:=0<=j/\j<=1000000/\i.natAbs<2 ^ 64
def Nr(i j:Int):Prop:=(-(2 ^ 64)<i/\i<2 ^ 64)∨(-(2 ^ 64)<j/\j<2 ^ 64)
theorem Nr.ok{i j:Int}(h:Nr i j):IntMulOk i j:=by
 rcases h with⟨h1,h2⟩ | ⟨h1,h2⟩
 ·exact .of_left (intBits_le_64 h1 h2)
 ·exact .of_right (intBits_le_64 h1 h2)
theorem dX:dm X (CU .Add) (uS λi j=>.int (i+j)):=Ss λ_ _ _ _ _ _ _ q=>add_int q
theorem KQ:dm X (CU .Sub) (uS λi j=>.int (i-j)):=Ss λ_ _ _ _ _ _ _ q=>sub_int q
theorem jd:dm X (CU .Mult) (rI Nr λi j=>.int (i*j)):=Pl λ_ _ _ _ _ _ _ hc q=>mul_int q hc.ok
theorem Sv:dm X (CU .Mod) (rI (λ_ j=>0<j) λi j=>.int (i % j)):=Pl λi j _ _ _ _ _ hc q=>by
 have h1:(0:Int)<j:=hc
 exact mod_int' (by omega) (by rw[Int.fmod_eq_emod_of_nonneg i (by omega)];exact q)
theorem Sw:dm X (CU .Pow) (rI Zr λi j=>.int (i ^ j.toNat)):=Pl λ_ _ _ _ _ _ _ hc q=>pow_int_small hc.1 hc.2.1 hc.2.2 q
theorem unI{f:Value->Sem Value}{g:Int->Int}
  (rule:∀(i:Int) (t:Tok) (s:AI) (Q:Value->AI->Prop) (E:Value->AI->Prop),Q (.int (g i) s.toks) {s with toks:=s.toks+1}->wpAny (model X.prog X.w) X.A (f (.int i t)) Q E s):
  Sr X f (rU λi=>.int (g i)):=by
 intro pins s σ H x v Q I rx h
 obtain⟨i,rfl,q⟩:=h
 obtain⟨t,rfl⟩:=rx
 exact rule i t s _ _ ⟨.int (g i),H,I.tok _,⟨_,rfl⟩,q⟩
theorem rF:Sr X (unaryOp .USub) (rU λi=>.int (-i)):=unI λ_ _ _ _ _ q=>neg_int q
end
def Nt:V->V->Bool
 | .non,.non=>true | .non,.int _=>true | .int _,.non=>true | .non,.bl _=>true | .bl _,.non=>true | .non,.str _=>true | .str _,.non=>true
 | .int _,.int _=>true | .bl _,.bl _=>true | .str _,.str _=>true | .jV _,.jV _=>true
 | .int _,.str _=>true | .str _,.int _=>true | .bl _,.str _=>true | .str _,.bl _=>true
 | _,_=>false
def rEq:R2:=λx y H Q=>Nt x y=true/\Q (.bl (decide (x=y))) H
def rNe:R2:=λx y H Q=>Nt x y=true/\Q (.bl (!decide (x=y))) H
theorem Ii{i j:Int}:decide (V.int i=V.int j)=(i == j):=by
 rw[Ei]
 simp
theorem KR{i j:Bool}:decide (V.bl i=V.bl j)=(i == j):=by
 rw[Ei]
 simp
theorem Ij{i j:Str}:decide (V.str i=V.str j)=(i == j):=by
 rw[Ei]
 simp
theorem Ik{i j:Array UInt8}:decide (V.jV i=V.jV j)=(i.toList == j.toList):=by
 rw[Ei]
 cases i
 cases j
 simp
section
variable{X:Cx}{a b c:Expr}{ta tb tc:TE}{pos:Pos}
theorem bC{pins:List (Addr×Obj)}{σ:St}{H:Hp}{s:AI}{Q:VK}{k k':Bool}(I:Inv X pins σ H s)(q:Q (.bl k) H)(e:k=k'):EP X pins σ Q (.bool k') s:=by
 subst e
 exact⟨.bl k,H,I,rfl,q⟩
theorem ij:dm X (Bt .Eq) rEq:=by
 intro pins s σ H x y v u Q I rx ry h
 obtain⟨hs,q⟩:=h
 cases x with
 | non=>
  cases rx
  cases y with
  | non=>cases ry;exact PySem.EqNone.eq_none_none (bC I q (by simp))
  | bl j=>cases ry;exact PySem.EqNone.eq_none_bool (bC I q (by simp))
  | int j=>obtain⟨t',rfl⟩:=ry;exact PySem.EqNone.eq_none_int (bC I q (by simp))
  | str j=>obtain⟨t',rfl⟩:=ry;exact PySem.EqNone.eq_none_str (bC I q (by simp))
  | _=>exact absurd (show false=true from hs) Am
 | bl i=>
  cases rx
  cases y with
  | non=>cases ry;exact PySem.EqNone.eq_bool_none (bC I q (by simp))
  | bl j=>cases ry;exact eq_bool (bC I q KR)
  | str j=>obtain⟨t',rfl⟩:=ry;exact PySem.EqMixed.eq_bool_str (bC I q (by simp))
  | _=>exact absurd (show false=true from hs) Am
 | int i=>
  obtain⟨t,rfl⟩:=rx
  cases y with
  | non=>cases ry;exact PySem.EqNone.eq_int_none (bC I q (by simp))
  | int j=>obtain⟨t',rfl⟩:=ry;exact eq_int (bC I q Ii)
  | str j=>obtain⟨t',rfl⟩:=ry;exact PySem.EqMixed.eq_int_str (bC I q (by simp))
  | _=>exact absurd (show false=true from hs) Am
 | str i=>
  obtain⟨t,rfl⟩:=rx
  cases y with
  | non=>cases ry;exact PySem.EqNone.eq_str_none (bC I q (by simp))
  | bl j=>cases ry;exact PySem.EqMixed.eq_str_bool (bC I q (by simp))
  | int j=>obtain⟨t',rfl⟩:=ry;exact PySem.EqMixed.eq_str_int (bC I q (by simp))
  | str j=>obtain⟨t',rfl⟩:=ry;exact eq_str (bC I q Ij)
  | _=>exact absurd (show false=true from hs) Am
 | jV i=>
  obtain⟨t,rfl⟩:=rx
  cases y with
  | jV j=>obtain⟨t',rfl⟩:=ry;exact PySem.W.eq_bytes (bC I q Ik)
  | _=>exact absurd (show false=true from hs) Am
 | _=>cases y<;>exact absurd (show false=true from hs) Am
theorem pR:dm X (Bt .NotEq) rNe:=by
 intro pins s σ H x y v u Q I rx ry h
 obtain⟨hs,q⟩:=h
 cases x with
 | non=>
  cases rx
  cases y with
  | non=>cases ry;exact PySem.EqNone.ne_none_none (bC I q (by simp))
  | bl j=>cases ry;exact PySem.EqNone.ne_none_bool (bC I q (by simp))
  | int j=>obtain⟨t',rfl⟩:=ry;exact PySem.EqNone.ne_none_int (bC I q (by simp))
  | str j=>obtain⟨t',rfl⟩:=ry;exact PySem.EqNone.ne_none_str (bC I q (by simp))
  | _=>exact absurd (show false=true from hs) Am
 | bl i=>
  cases rx
  cases y with
  | non=>cases ry;exact PySem.EqNone.ne_bool_none (bC I q (by simp))
  | bl j=>cases ry;exact ne_bool (bC I q (congrArg not KR))
  | str j=>obtain⟨t',rfl⟩:=ry;exact PySem.EqMixed.ne_bool_str (bC I q (by simp))
  | _=>exact absurd (show false=true from hs) Am
 | int i=>
  obtain⟨t,rfl⟩:=rx
  cases y with
  | non=>cases ry;exact PySem.EqNone.ne_int_none (bC I q (by simp))
  | int j=>obtain⟨t',rfl⟩:=ry;exact ne_int (bC I q (congrArg not Ii))
  | str j=>obtain⟨t',rfl⟩:=ry;exact PySem.EqMixed.ne_int_str (bC I q (by simp))
  | _=>exact absurd (show false=true from hs) Am
 | str i=>
  obtain⟨t,rfl⟩:=rx
  cases y with
  | non=>cases ry;exact PySem.EqNone.ne_str_none (bC I q (by simp))
  | bl j=>cases ry;exact PySem.EqMixed.ne_str_bool (bC I q (by simp))
  | int j=>obtain⟨t',rfl⟩:=ry;exact PySem.EqMixed.ne_str_int (bC I q (by simp))
  | str j=>obtain⟨t',rfl⟩:=ry;exact ne_str (bC I q (congrArg not Ij))
  | _=>exact absurd (show false=true from hs) Am
 | jV i=>
  obtain⟨t,rfl⟩:=rx
  cases y with
  | jV j=>obtain⟨t',rfl⟩:=ry;exact PySem.W.ne_bytes (bC I q (congrArg not Ik))
  | _=>exact absurd (show false=true from hs) Am
 | _=>cases y<;>exact absurd (show false=true from hs) Am
theorem Pm:dm X (Bt .Lt) (uS λi j=>.bl (decide (i<j))):=JB λ_ _ _ _ _ _ _ q=>lt_int q
theorem WS:dm X (Bt .LtE) (uS λi j=>.bl (decide (i<=j))):=JB λ_ _ _ _ _ _ _ q=>le_int q
theorem pS:dm X (Bt .Gt) (uS λi j=>.bl (decide (j<i))):=JB λ_ _ _ _ _ _ _ q=>gt_int q
theorem WT:dm X (Bt .GtE) (uS λi j=>.bl (decide (j<=i))):=JB λ_ _ _ _ _ _ _ q=>ge_int q
theorem oK:dm X (Bt .Is) (λx y H Q=>y=.non/\Q (.bl (decide (x=.non))) H):=by
 intro pins s σ H x y v u Q I rx ry h
 obtain⟨rfl,q⟩:=h
 cases ry
 refine is_none_gen (bC I q ?_)
 cases x<;>first
  | (cases rx;rfl)
  | (obtain⟨t,rfl⟩:=rx;rfl)
theorem bD(b:Expr){op:CmpOp}(h:op≠.In:=by decide)(h2:op≠.NotIn:=by decide):behindInMarks op b=false:=by
 have e1:(op == CmpOp.In)=false:=by cases op<;>first | rfl | exact absurd rfl h
 have e2:(op == CmpOp.NotIn)=false:=by cases op<;>first | rfl | exact absurd rfl h2
 cases b<;>simp[behindInMarks,e1,e2]
theorem jQ{op:CmpOp}{r:R2}(ho:dm X (Bt op) r)(ha:PE X a ta)(hb:PE X b tb)(hm:behindInMarks op b=false):PE X (.Compare a [op] [b] pos) (Pk r ta tb):=by
 intro pins s σ H Q I h
 exact wpAny_Compare1 (Nq ha hb I h λv u s2 x y H2 I2 rx ry q=>ho pins s2 σ H2 x y v u Q I2 rx ry q) hm
def Pn(t:TE):TT:=λσ H Q=>t σ H λx H'=>∃k,x=.bl k/\Q k H'
theorem bx{op:CmpOp}{r:R2}(ho:dm X (Bt op) r)(ha:PE X a ta)(hb:PE X b tb)(hm:behindInMarks op b=false):PT X (.Compare a [op] [b] pos) (Pn (Pk r ta tb)):=by
 intro pins s σ H Q I h
 refine wpAny_isTrue_Compare1 (aM (ha pins s σ H _ I h) λv s1 ⟨x,H1,I1,r1,q1⟩=>aM (hb pins s1 σ H1 _ I1 q1) λu s2 ⟨y,H2,I2,r2,q2⟩=>
  aM (ho pins s2 σ H2 x y v u _ I2 r1 r2 q2) λc s3 ⟨z,H3,I3,r3,k,e,q3⟩=>?_) hm
 subst e
 cases r3
 exact CI ⟨H3,I3,q3⟩
def Sx(r r':R2)(ta tb tc:TE):TE:=λσ H Q=>ta σ H λx H1=>tb σ H1 λy H2=>r x y H2 λz H3=>∃k,z=.bl k/\
 (if k=true then tc σ H3 λw' H4=>r' y w' H4 Q else Q (.bl false) H3)
theorem Nu{op op':CmpOp}{r r':R2}(ho:dm X (Bt op) r)(ho':dm X (Bt op') r')(ha:PE X a ta)(hb:PE X b tb)(hc:PE X c tc)
  (hm:lastMarks [op,op'] [b,c]=false:=by with_unfolding_all rfl):PT X (.Compare a [op,op'] [b,c] pos) (Pn (Sx r r' ta tb tc)):=by
 intro pins s σ H Q I h
 refine isTrue_chain (aM (ha pins s σ H _ I h) λv s1 ⟨x,H1,I1,r1,q1⟩=>test_link (aM (hb pins s1 σ H1 _ I1 q1) λu s2 ⟨y,H2,I2,r2,q2⟩=>
  aM (ho pins s2 σ H2 x y v u _ I2 r1 r2 q2) λd s3 ⟨z,H3,I3,r3,k,e,q3⟩=>?_)) hm
 subst e
 cases r3
 refine CI ?_
 cases k with
 | false=>
  obtain⟨k',e',q'⟩:=q3
  cases e'
  exact ite_ff ⟨H3,I3,q'⟩
 | true=>
  refine ite_tt (test_last (aM (hc pins s3 σ H3 _ I3 q3) λw' s4 ⟨z',H4,I4,r4,q4⟩=>aM (ho' pins s4 σ H4 y z' u w' _ I4 r2 r4 q4) λd' s5 ⟨z2,H5,I5,r5,k2,e2,q5⟩=>?_))
  subst e2
  cases r5
  exact CI ⟨H5,I5,q5⟩
def Sy(K:AD)(x:V)(H:Hp)(k:Bool):Prop:=
 match x with
 | .non=>k=false
 | .bl b=>k=b
 | .int i=>k=(i != 0)
 | .str y=>y.length<=sizeLine/\k=((y.length:Int) != 0)
 | .jV y=>y.size<=sizeLine/\k=((y.size:Int) != 0)
 | .ref p=>(∃xs,bz K H p xs/\k= !xs.isEmpty)∨(∃xs,aZ K H p xs/\k= !xs.isEmpty)∨∃kvs,H p=some (.dK kvs)/\k= !kvs.isEmpty
 | _=>False
theorem JC{κ:Type}{kvs:List (κ×V)}{vs:List (κ×Value)}(r:KV kvs vs):(!vs.isEmpty)= !kvs.isEmpty:=by
 cases r<;>rfl
theorem rG{xs:List V}{its:List Value}(r:Vals xs its):(!its.toArray.isEmpty)= !xs.isEmpty:=by
 cases r<;>simp
theorem lU:(sizeLine:Nat)<2 ^ 63:=by rw[Ee];decide
theorem Sz:Zq X (λx H Q=>∃k,Sy X.K x H k/\Q k H):=by
 intro pins s σ H x v Q I rx h
 obtain⟨k,e,q⟩:=h
 have hl:=lU
 have hs:sizeLine=16777216:=Ee
 cases x with
 | non=>
  cases rx
  have e':k=false:=e
  subst e'
  exact truthy_none ⟨H,I,q⟩
 | bl b=>
  cases rx
  have e':k=b:=e
  subst e'
  exact CI ⟨H,I,q⟩
 | int i=>
  obtain⟨t,rfl⟩:=rx
  have e':k=(i != 0):=e
  subst e'
  exact PySem.P.truthy_int ⟨H,I,q⟩
 | str y=>
  obtain⟨t,rfl⟩:=rx
  obtain⟨hy,e'⟩:y.length<=sizeLine/\k=((y.length:Int) != 0):=e
  subst e'
  exact PySem.P.truthy_str (by omega) ⟨H,I.tok _,q⟩
 | jV y=>
  obtain⟨t,rfl⟩:=rx
  obtain⟨hy,e'⟩:y.size<=sizeLine/\k=((y.size:Int) != 0):=e
  subst e'
  exact PySem.W.truthy_bytes (by omega) ⟨H,I.tok _,q⟩
 | ref p=>
  cases rx
  have e':(∃xs,bz X.K H p xs/\k= !xs.isEmpty)∨(∃xs,aZ X.K H p xs/\k= !xs.isEmpty)∨∃kvs,H p=some (.dK kvs)/\k= !kvs.isEmpty:=e
  rcases e' with⟨xs,hx,e'⟩ | ⟨xs,hx,e'⟩ | ⟨kvs,hx,e'⟩
  ·subst e'
   obtain⟨its,r,pl,hz⟩:=I.list hx
   have hlen:=r.length
   exact wpAny_truthy_list pl.isList (by simp only[Ai];omega) ⟨H,I.tok _,by rw[rG r];exact q⟩
  ·subst e'
   obtain⟨its,r,pl,hz⟩:=I.tuple hx
   have hlen:=r.length
   exact truthy_tuple pl (by simp only[Ai];omega) ⟨H,I.tok _,by rw[rG r];exact q⟩
  ·subst e'
   obtain⟨hz,hS,vs,r,m⟩:kvs.length<=sizeLine/\(p == Bq)=false/\∃vs,KV kvs vs/\s.heap.DictOf (aY X.prog X.w) p vs:=I.hok p _ hx
   have hlen:kvs.length=vs.length:=AX r
   exact wpAny_truthy_dict hS m (by omega) ⟨H,I.tok _,by rw[JC r];exact q⟩
 | _=>exact(show False from e).elim
theorem j_(ha:PE X a ta)(he:∀whole,isTrue a X.env whole=(do let v <-whole;standAt a.pos;holding [v] (truthy v))):
  PT X a (λσ H Q=>ta σ H λx H'=>∃k,Sy X.K x H' k/\Q k H'):=by
 intro pins s σ H Q I h
 exact isTrue_plain (aM (ha pins s σ H _ I h) λv s1 ⟨x,H1,I1,r1,q1⟩=>Sz pins s1 σ H1 x v Q I1 r1 q1) (he _)
theorem rH:dm X (CU .Add) (λx y H Q=>∃i j,x=.str i/\y=.str j/\i.length+j.length<=sizeLine/\Q (.str (i++j)) H):=by
 intro pins s σ H x y v u Q I rx ry h
 obtain⟨i,j,rfl,rfl,hz,q⟩:=h
 obtain⟨t,rfl⟩:=rx
 obtain⟨t',rfl⟩:=ry
 exact add_str (λt' tk=>⟨.str (i++j),H,I.tok _,⟨_,rfl⟩,q⟩) hz
theorem vals1{x:V}{us:List Value}(r:Vals [x] us):∃u,us=[u]/\RelV x u:=by
 cases r with
 | cons r1 r2=>cases r2;exact⟨_,rfl,r1⟩
theorem vals2{x y:V}{us:List Value}(r:Vals [x,y] us):∃u w',us=[u,w']/\RelV x u/\RelV y w':=by
 cases r with
 | cons r1 r2=>
  cases r2 with
  | cons r3 r4=>cases r4;exact⟨_,_,rfl,r1,r3⟩
theorem xA:cS X (.builtin "abs") (λxs H Q=>∃i,xs=[.int i]/\Q (.int (if i<0 then-i else i)) H):=by
 intro pins s σ H xs us Q I r h
 obtain⟨i,rfl,q⟩:=h
 obtain⟨u,rfl,t,rfl⟩:=vals1 r
 exact call_abs_int λu tk=>⟨.int (if i<0 then-i else i),H,I.tok _,⟨_,rfl⟩,q⟩
theorem JD:cS X (.type "bool") (λxs H Q=>(∃i,xs=[.int i]/\Q (.bl (i != 0)) H)∨∃k,xs=[.bl k]/\Q (.bl k) H):=by
 intro pins s σ H xs us Q I r h
 rcases h with⟨i,rfl,q⟩ | ⟨k,rfl,q⟩
 ·obtain⟨u,rfl,t,rfl⟩:=vals1 r
  exact call_bool_int ⟨.bl (i != 0),H,I,rfl,q⟩
 ·obtain⟨u,rfl,r1⟩:=vals1 r
  cases r1
  exact call_bool_bool ⟨.bl k,H,I,rfl,q⟩
def SA(K:AD)(x:V)(H:Hp)(n:Nat):Prop:=
 match x with
 | .str y=>y.length<=sizeLine/\n=y.length
 | .jV y=>y.size<=sizeLine/\n=y.size
 | .ref p=>(∃xs,bz K H p xs/\n=xs.length)∨∃xs,aZ K H p xs/\n=xs.length
 | _=>False
theorem Nv:cS X (.builtin "len") (λxs H Q=>∃x n,xs=[x]/\SA X.K x H n/\Q (.int n) H):=by
 intro pins s σ H xs us Q I r h
 obtain⟨x,n,rfl,e,q⟩:=h
 obtain⟨u,rfl,rx⟩:=vals1 r
 have hl:=lU
 have hs:sizeLine=16777216:=Ee
 cases x with
 | str y=>
  obtain⟨t,rfl⟩:=rx
  obtain⟨hy,e'⟩:y.length<=sizeLine/\n=y.length:=e
  subst e'
  exact len_str (by omega) ⟨.int _,H,I.tok _,⟨_,rfl⟩,q⟩
 | jV y=>
  obtain⟨t,rfl⟩:=rx
  obtain⟨hy,e'⟩:y.size<=sizeLine/\n=y.size:=e
  subst e'
  exact PySem.W.len_bytes (by omega) ⟨.int _,H,I.tok _,⟨_,rfl⟩,q⟩
 | ref p=>
  cases rx
  have e':(∃xs,bz X.K H p xs/\n=xs.length)∨∃xs,aZ X.K H p xs/\n=xs.length:=e
  rcases e' with⟨xs,hx,e'⟩ | ⟨xs,hx,e'⟩
  ·subst e'
   obtain⟨its,r',pl,hz⟩:=I.list hx
   have hlen:=r'.length
   exact Calls.call_len_list pl.isList (by simp only[Ai];omega) ⟨.int xs.length,H,I.tok _,⟨_,by simp only[Ai];rw[hlen]⟩,q⟩
  ·subst e'
   obtain⟨its,r',pl,hz⟩:=I.tuple hx
   have hlen:=r'.length
   exact len_tuple pl (by simp only[Ai];omega) ⟨.int xs.length,H,I.tok _,⟨_,by simp only[Ai];rw[hlen]⟩,q⟩
 | _=>exact(show False from e).elim
end
structure Nw (h:Heap)(x dx C:Addr)(mA:Str->Option Value):Prop where
 obj:h.get? x=some (GC C dx)
 ns:h.Ns1 dx mA
 ne:dx≠x
theorem KS{h:Heap}{dx:Addr}{mA:Str->Option Value}(n:h.Ns1 dx mA):∃od,h.get? dx=some od/\∀name,Ge name od=some (mA name):=by
 obtain⟨o,es,ep,ho,hd,hk,_,hm⟩:=n
 refine⟨o,ho,λname=>?_⟩
 have e:=hm name
 unfold nsFind findBy at e
 rw[<-Array.find?_toList] at e
 unfold Ge
 rw[hd]
 dsimp only
 split
 ·rename_i y q
  rw[q] at e
  exact congrArg some e
 ·rename_i q
  rw[q] at e
  have a:es.toList.any (·.refKey)=false:=by
   rw[List.any_eq_false]
   intro y hy
   obtain⟨z,t,hkey⟩:=hk y (Array.mem_toList_iff.mp hy)
   simp[DictEntry.refKey,hkey]
  have a':¬es.toList.any (·.refKey)=true:=by rw[a];exact Am
  rw[if_neg a']
  exact congrArg some e
theorem Nw.look{h:Heap}{x dx C:Addr}{mA:Str->Option Value}(I:Nw h x dx C mA):∃od,PySem.W.InstAt h x (GC C dx) C (some od)/\∀name,Ge name od=some (mA name):=
 let ⟨od,ho,hl⟩:=KS I.ns
 ⟨od,⟨I.obj,rfl,rfl,ho⟩,hl⟩
theorem gq.some_of{v:V}{o:Option Value}(r:gq (some v) o):∃u,o=some u/\RelV v u:=by
 cases o with
 | none=>exact(show False from r).elim
 | some u=>exact⟨u,rfl,r⟩
theorem gq.none_of{o:Option Value}(r:gq none o):o=none:=by
 cases o with
 | none=>rfl
 | some u=>exact(show False from r).elim
section
variable{P:Ak}{w:World}{H H':Hp}{h h':Heap}{a C dx:Addr}{fs fs':List (Str×V)}
theorem QX(hok:cV P w H h)(e:H a=some (.ins C dx fs)):∃mA,Nw h a dx C mA/\(∀f,gq (fs.lookup f) (mA f))/\PySem.Within mA (fs.map (·.1))/\fs.length<=1000/\H dx=some (.own a):=by
 obtain⟨d,z,ne,ob,mA,n,r,q⟩:=(show bM P w H h a (.ins C dx fs) from hok a _ e)
 exact⟨mA,⟨ob,n,ne⟩,r,q,z,d⟩
end
structure Cls (K:AD)(C:Addr):Prop where
 pg:Hb K C Str.empty=true
 hd:PySem.W.hasDictIn K C=true
 po:PySem.W.plainOver K C=true
 sa:PySem.W.findIn K (.ref C) "__setattr__"=some (some (.builtin "object.__setattr__"))
theorem Cls.get{K:AD}{C:Addr}(c:Cls K C)(f:Str):Hb K C f=true:=c.pg
section
variable{X:Cx}{pins:List (Addr×Obj)}{σ:St}{H:Hp}{s:AI}{A:A9}{E:Value->AI->Prop}{Q:Value->AI->Prop}{c:Value}{b:Bool}
inductive gs (K:AD)(H:Hp):V->Value->Prop where
 | non:gs K H .non (.type "NoneType")
 | bl (x:Bool):gs K H (.bl x) (.type "bool")
 | int (i:Int):gs K H (.int i) (.type "int")
 | str (x:Str):gs K H (.str x) (.type "str")
 | flt (x:UInt64):gs K H (.flt x) (.type "float")
 | lst {a:Addr} {xs:List V} (e:H a=some (.lst xs)):gs K H (.ref a) (.type "list")
 | jb {a:Addr} {o:Obj} {xs:List V} (e:H a=some (.jb o (.lst xs))):gs K H (.ref a) (.type "list")
 | tup {a:Addr} {xs:List V} (e:H a=some (.tup xs)):gs K H (.ref a) (.type "tuple")
 | dK {a:Addr} {kvs:List (Key×V)} (e:H a=some (.dK kvs)):gs K H (.ref a) (.type "dict")
 | dT {a:Addr} {kvs:List (List Key×V)} (e:H a=some (.dT kvs)):gs K H (.ref a) (.type "dict")
 | ins {a C dx:Addr} {fs:List (Str×V)} (e:H a=some (.ins C dx fs)) (cl:Cls K C) (ha:PySem.W.findIn K (.ref C) "__class__"=some (some (.builtin "object.__class__")))
   (hn:PySem.W.specialIn K (.builtin "object.__class__") "__get__"=some (some (.builtin "getset_descriptor.__get__"))) (htk:PySem.W.takesIn K (.builtin "object.__class__")=some true)
   (hm:PySem.W.mroIn K C (.type "object")=some true):gs K H (.ref a) (.ref C)
theorem KU{x:V}{u t:Value}(I:Inv X pins σ H s)(rx:RelV x u)(ty:gs X.K H x t)(e:A5 X.K t c=some b)(h:∀tk,Q (.bool b) {s with toks:=tk}):
  wpAny (model X.prog X.w) A (call (.builtin "isinstance") [u,c]) Q E s:=by
 cases ty with
 | non=>cases(show u=B5 from rx);exact Bn PySem.W.kitx_none I.gx Bf e (λz=>nomatch z) h
 | bl y=>cases(show u=DS y from rx);exact Bn PySem.W.kitx_bool I.gx Bf e (λz=>nomatch z) h
 | int i=>obtain⟨t,q⟩:=(show ∃t,u=Gv i t from rx);cases q;exact Bn PySem.W.kitx_int I.gx Bf e (λz=>nomatch z) h
 | str y=>obtain⟨t,q⟩:=(show ∃t,u=EO y t from rx);cases q;exact Bn PySem.W.kitx_str I.gx Bf e (λz=>nomatch z) h
 | flt y=>obtain⟨t,q⟩:=(show ∃t,u=Value.float y t from rx);cases q;exact Bn PySem.W.kitx_float I.gx Bf e (λz=>nomatch z) h
 | @lst a xs ea=>
  cases(show u=BI a from rx)
  obtain⟨_,_,n,_,h1⟩:=(show bM X.prog X.w H s.heap a (.lst xs) from I.hok a _ ea)
  exact Bn HK I.gx ⟨_,h1,rfl⟩ e (λz=>nomatch z) h
 | @jb a ob xs ea=>
  cases(show u=BI a from rx)
  obtain⟨_,_,_,n,_,h1⟩:=(show bM X.prog X.w H s.heap a (.jb ob (.lst xs)) from I.hok a _ ea)
  exact Bn HK I.gx ⟨_,h1,rfl⟩ e (λz=>nomatch z) h
 | @tup a xs ea=>
  cases(show u=BI a from rx)
  obtain⟨_,_,_,p⟩:=(show bM X.prog X.w H s.heap a (.tup xs) from I.hok a _ ea)
  obtain⟨o,h1,h2,_⟩:=p
  exact Bn PySem.W.kitx_tuple I.gx ⟨o,h1,h2⟩ e (λz=>nomatch z) h
 | @dK a kvs ea=>
  cases(show u=BI a from rx)
  obtain⟨_,_,vs,_,p⟩:=(show bM X.prog X.w H s.heap a (.dK kvs) from I.hok a _ ea)
  obtain⟨o,es,ep,h1,h2,_⟩:=p
  exact Bn HL I.gx ⟨o,h1,h2.1⟩ e (λz=>nomatch z) h
 | @dT a kvs ea=>
  cases(show u=BI a from rx)
  obtain⟨_,_,xs,_,o,es,ep,h1,h2,_⟩:=(show bM X.prog X.w H s.heap a (.dT kvs) from I.hok a _ ea)
  exact Bn HL I.gx ⟨o,h1,h2.1⟩ e (λz=>nomatch z) h
 | @ins a C dx fs ea cl ha hn htk hm=>
  cases(show u=BI a from rx)
  obtain⟨mA,O,_⟩:=QX I.hok ea
  obtain⟨od,J,_⟩:=O.look
  exact Bn (PySem.W.kitx_own (cl.get _) cl.hd ha hn htk hm) I.gx J e (λz=>nomatch z) h
end
structure aP (k:Nat)(A:A9):Prop where
 hd:A.handled=none
 dp:A.depth+3*k+5<recursionLimit
 un:A.units+16*k+200<cLine
 gd:A.guards=some []
theorem aP.mono{j k:Nat}{A:A9}(r:aP k A)(h:j<=k):aP j A:=⟨r.hd,by have:=r.dp;omega,by have:=r.un;omega,r.gd⟩
theorem aP.deeper{k:Nat}{A:A9}(r:aP (k+1) A)(env:Env):aP k (A.deeper env):=
 ⟨r.hd,by have:=r.dp;show A.depth+1+3*k+5<_;omega,by have:=r.un;show A.units+3+16*k+200<_;omega,r.gd⟩
theorem aP.depth{k:Nat}{A:A9}(r:aP k A):A.depth<recursionLimit:=by have:=r.dp;omega
theorem aP.units{k:Nat}{A:A9}(r:aP k A):A.units+64<cLine:=by have:=r.un;omega
def xB:TA:=λ_ H Q=>Q [] H
def rJ(ta:TE)(tr:TA):TA:=λσ H Q=>ta σ H λx H1=>tr σ H1 λxs H2=>Q (x::xs) H2
section
variable{X:Cx}{e:Expr}{es:List Expr}{te:TE}{t:TA}{pos:Pos}
theorem ag:PA X [] xB:=λ_ _ _ _ H Q I h=>D' ⟨[],H,I,.nil,h⟩
theorem ae(ha:PE X e te)(hr:PA X es t)(hs:BC (e::es) X.env=(false,eval e X.env)::BC es X.env:=by rfl):PA X (e::es) (rJ te t):=by
 intro pos pins s σ H Q I h
 rw[hs]
 show wpAny _ _ (spliced ((false,eval e X.env)::D_ pos (BC es X.env))) _ _ s
 refine CV (aM (ha pins s σ H _ I h) λu s1 ⟨x,H1,I1,r1,q1⟩=>?_)
 exact aM (hr pos pins s1 σ H1 _ I1 q1) λus s2 ⟨xs,H2,I2,r2,q2⟩=>⟨x::xs,H2,I2,.cons r1 r2,q2⟩
def Zs(t:TA):TE:=λσ H Q=>t σ H λxs H1=>xs.length<=sizeLine/\∀p,H1 p=none->Q (.ref p) (upd H1 p (.tup xs))
def Zt(t:TA):TE:=λσ H Q=>t σ H λxs H1=>xs.length<=sizeLine/\∀p,H1 p=none->Q (.ref p) (upd H1 p (.lst xs))
theorem bf{x1}(h:PA X es t):PE X (.Tuple es x1 pos) (Zs t):=by
 intro pins s σ H Q I hq
 refine wpAny_Tuple_spliced (aM (h pos pins s σ H _ I hq) λus s1 ⟨xs,H1,I1,r,z,q⟩=>⟨by rw[<-r.length];exact z,?_⟩)
 have hf:H1 s1.heap.objs.size=none:=I1.hok.fresh (AM _)
 refine⟨.ref s1.heap.objs.size,upd H1 s1.heap.objs.size (.tup xs),I1.laid (t':=s1.toks) (λb u e=>AE _ e) (AM _) ?_,rfl,q _ hf⟩
 exact⟨⟨z,_,AO _ rfl,rfl⟩,us,r,⟨_,AO _ rfl,rfl,_,rfl⟩⟩
theorem cf(h:PA X es t):PE X (.List es pos) (Zt t):=by
 intro pins s σ H Q I hq
 refine wpAny_List_spliced (aM (h pos pins s σ H _ I hq) λus s1 ⟨xs,H1,I1,r,z,q⟩=>⟨by rw[<-r.length];exact z,?_⟩)
 have hf:H1 s1.heap.objs.size=none:=I1.hok.fresh (AM _)
 refine⟨.ref s1.heap.objs.size,upd H1 s1.heap.objs.size (.lst xs),I1.laid (t':=s1.toks) (λb u e=>AE _ e) (AM _) ?_,rfl,q _ hf⟩
 exact⟨z,us,0,r,AO _ rfl⟩
end
abbrev Sp:=List V->Hp->VK->XK->Prop
abbrev qm:=List Env->Hp->AI->XK->Value->AI->Prop
structure qA (P:Ak)(w:World)(K:AD)(mg:Str->Option Value)(base:Heap)(A:A9)(outer:List Env)(s:AI)(H:Hp):Prop where
 frames:A.frames=some outer
 mod:Mod K mg base
 bs:∀b o,base.get? b=some o->s.heap.get? b=some o/\H b=none
 oE:base.objs.size<=s.heap.objs.size
 ic:s.heap.FunFrames base outer
 uN:∀b∈frs outer,H b=none
 hok:cV P w H s.heap
 bare:FK s.gens
def CE(outer:List Env)(P:Ak)(w:World)(H:Hp)(s:AI)(Q:VK)(u:Value)(s':AI):Prop:=
 ∃v H',s'.os=s.os/\FK s'.gens/\Un (frs outer) [] H H' s.heap s'.heap/\cV P w H' s'.heap/\RelV v u/\Q v H'
def CR(CX:qm)(outer:List Env)(P:Ak)(w:World)(H:Hp)(s:AI)(Q:VK)(E:XK)(r:Result)(s':AI):Prop:=
 match r with
 | .ok (.ret u)=>CE outer P w H s Q u s'
 | .ok _=>False
 | .error e=>CX outer H s E e s'
structure aR (P:Ak)(w:World)(K:AD)(mg:Str->Option Value)(base:Heap)(CX:qm)(k:Nat)(f:Addr)(fd:Aw)(ps:List Str)(sp:Sp):Prop where
 len:∀vs H Q E,sp vs H Q E->vs.length=ps.length
 run:∀(A:A9) (outer:List Env) (s:AI) (H:Hp) (args:Args) (us:List Value) (vs:List V) (Q:VK) (E:XK),aP k A->qA P w K mg base A outer s H->HM s fd args (ps.zip us)->Vals vs us->sp vs H Q E->
  EY (model P w) A (.call (.ref f) args) (CR CX outer P w H s Q E) s
section
variable{X:Cx}{pins:List (Addr×Obj)}{σ:St}{H:Hp}{s s':AI}
theorem Inv.env0(I:Inv X pins σ H s):qA X.prog X.w X.K X.mg X.base X.A X.stack s H:=
 ⟨I.ok.frames,I.ok.mod,I.bs,BB I.ok.oE I.sz,I.stack,I.lR,I.hok,I.bare⟩
theorem Inv.after{Q:VK}{u:Value}(I:Inv X pins σ H s)(h:CE X.stack X.prog X.w H s Q u s'):EP X pins σ Q u s':=by
 obtain⟨v,H',os,bare,un,hok,r,q⟩:=h
 obtain⟨hh,g,d,t,os'⟩:=s'
 obtain rfl:os'=s.os:=os
 exact⟨v,H',I.call (h':=hh) (g':=g) (d':=d) (t':=t) (ch:=[]) un hok bare (λb z=>absurd z (by simp)),r,q⟩
end
def WU(sp:Sp)(rK:List V)(E:XK)(t:TA):TE:=λσ H Q=>t σ H λvs H1=>sp (vs++rK) H1 Q E
def Binds(K:AD)(fd:Aw)(ps:List Str)(ds:List Value):Prop:=
 ∀(s:AI) (us:List Value),K.In s.heap->(us++ds).length=ps.length->HM s fd ⟨us,[]⟩ (ps.zip (us++ds))
theorem Binds.all{K:AD}{fd:Aw}{ps:List Str}(h:∀us:List Value,us.length=ps.length->Gf fd ⟨us,[]⟩=pure (ps.zip us)):Binds K fd ps []:=λs us _ hl=>by
 rw[BS] at hl ⊢
 exact .of_eq (h us hl)
def Passes(CX:qm)(X:Cx)(E:XK):Prop:=∀(pins:List (Addr×Obj)) (σ:St) (H:Hp) (s:AI) (e:Value) (s':AI),Inv X pins σ H s->CX X.stack H s E e s'->X.xe e s'
section
variable{X:Cx}{CX:qm}{k:Nat}{f C:Addr}{fd:Aw}{ps:List Str}{sp:Sp}{rK:List V}{ds:List Value}{E:XK}{x m:Str}{p pos apos:Pos}{e o:Expr}{es:List Expr}{ta:TE}{t:TA}
theorem KW{pins:List (Addr×Obj)}{σ:St}{H:Hp}{s:AI}{Q:VK}{us:List Value}{vs:List V}(F:aR X.prog X.w X.K X.mg X.base CX k f fd ps sp)(hr:aP k X.A)(hb:Binds X.K fd ps ds)(hd:Vals rK ds)(hx:Passes CX X E)
  (I:Inv X pins σ H s) (r:Vals vs us) (h:sp (vs++rK) H Q E):wpAny (model X.prog X.w) X.A (call (.ref f) us) (EP X pins σ Q) X.xe s:=by
 have r2:Vals (vs++rK) (us++ds):=r.append hd
 have hl:(us++ds).length=ps.length:=by rw[<-r2.length];exact F.len _ _ _ _ h
 refine wpAny_call (EA (F.run X.A X.stack s H ⟨us,[]⟩ (us++ds) (vs++rK) Q E hr I.env0 (hb s us I.gx hl) r2 h) λr s' hq=>?_)
 cases r with
 | error e=>exact hx pins σ H s e s' I hq
 | ok fl=>
  cases fl with
  | ret u=>exact I.after hq
  | next=>exact Be hq
  | brk=>exact Be hq
  | cont=>exact Be hq
theorem aA(F:aR X.prog X.w X.K X.mg X.base CX k f fd ps sp)(hr:aP k X.A)(hg:Gl X x)(hm:X.mg x=some (.ref f))(hk:AK X.K (.ref f)=true)(hb:Binds X.K fd ps ds)(hd:Vals rK ds)(hx:Passes CX X E)
  (ha:PA X (e::es) t) (hdb:(x == ("__debug__":Str))=false:=by decide) (he:BC (e::es) X.env=(false,eval e X.env)::BC es X.env:=by rfl) (hpl:(D_ pos (BC es X.env)).any (·.1)=false:=by rfl):
  PE X (.Call (.Name x p) (e::es) [] pos) (WU sp rK E t):=by
 intro pins s σ H Q I h
 refine B0 (tO I hg hm ?_ hdb)
 refine HE (h₀:=X.base) I.ok.mod.oC hk (aM (ha pos pins s σ H _ I h) λus s1 ⟨vs,H1,I1,r,q⟩=>⟨I1.gx,?_⟩) he hpl
 exact KW F hr hb hd hx I1 r q
end
structure aO (N P:List Str)(sc:Scope):Prop where
 kind:sc.kind=.function
 co:sc.isCoroutine=false
 gen:sc.isGenerator=false
 nd:N.Nodup
 pre:N.take P.length=P
 par:∀x∈P,sc.names.lookup x=some .local∨sc.names.lookup x=some .cell
 SD:∀y∈sc.names,y.2≠.free
theorem uT{kindOf:Str->Option Cj}{x:Str}:∀{binds:List (Str×Value)} {m:Str->Option Value},(∀v,(x,v) ∉ binds)->bindL kindOf binds m x=m x
 | [],_,_=>rfl
 | (n,v)::r,m,h=>by
  unfold bindL
  rw[uT λw hw=>h w (AV _ hw)]
  split
  ·have:x≠n:=by rintro rfl;exact h v AZ
   simp[this]
  ·rfl
theorem uV{kindOf:Str->Option Cj}{x:Str}:∀{binds:List (Str×Value)} {m:Str->Option Value},(∀v,(x,v) ∉ binds)->bindC kindOf binds m x=m x
 | [],_,_=>rfl
 | (n,v)::r,m,h=>by
  unfold bindC
  rw[uV λw hw=>h w (AV _ hw)]
  split
  ·rfl
  ·have:x≠n:=by rintro rfl;exact h v AZ
   simp[this]
theorem uW{kindOf:Str->Option Cj}{x:Str}{v:Value}:∀{P:List Str} {vs:List Value} {i:Nat} {m:Str->Option Value},P.Nodup->P[i]? =some x->vs[i]? =some v->kindOf x=some .local->
  bindL kindOf (P.zip vs) m x=some v
 | [],_,_,_,_,h,_,_=>by simp at h
 | _::_,[],_,_,_,_,h,_=>by simp at h
 | p::P,w::vs,0,m,nd,h1,h2,hk=>by
  simp at h1 h2;subst h1;subst h2
  show bindL kindOf ((p,w)::P.zip vs) m p=_
  unfold bindL
  rw[uT λv hv=>(B_.mp nd).1 (DE hv).1,if_pos hk]
  simp
 | p::P,w::vs,i+1,m,nd,h1,h2,hk=>by
  show bindL kindOf ((p,w)::P.zip vs) m x=_
  unfold bindL
  exact uW (i:=i) (B_.mp nd).2 (by simpa using h1) (by simpa using h2) hk
theorem uX{kindOf:Str->Option Cj}{x:Str}{v:Value}:∀{P:List Str} {vs:List Value} {i:Nat} {m:Str->Option Value},P.Nodup->P[i]? =some x->vs[i]? =some v->kindOf x≠some .local->
  bindC kindOf (P.zip vs) m x=some v
 | [],_,_,_,_,h,_,_=>by simp at h
 | _::_,[],_,_,_,_,h,_=>by simp at h
 | p::P,w::vs,0,m,nd,h1,h2,hk=>by
  simp at h1 h2;subst h1;subst h2
  show bindC kindOf ((p,w)::P.zip vs) m p=_
  unfold bindC
  rw[uV λv hv=>(B_.mp nd).1 (DE hv).1,if_neg hk]
  simp
 | p::P,w::vs,i+1,m,nd,h1,h2,hk=>by
  show bindC kindOf ((p,w)::P.zip vs) m x=_
  unfold bindC
  exact uX (i:=i) (B_.mp nd).2 (by simpa using h1) (by simpa using h2) hk
def start(N:List Str)(vs:List V):St:=vs.map some++BY (N.length-vs.length) none
def j0(CX:qm)(P:Ak)(w:World)(K:AD)(mg:Str->Option Value)(base:Heap)(N:List Str)(qual:Str)(scope:Scope)(f:Addr)(cd:Value)(A:A9)(outer:List Env)(s:AI)(H:Hp)(E:XK):Cx where
 prog:=P
 w:=w
 K:=K
 mg:=mg
 base:=base
 A:=A.deeper (Ej qual scope s.heap.objs.size f cd)
 N:=N
 s₀:=s
 H₀:=H
 env:=Ej qual scope s.heap.objs.size f cd
 outer:=outer
 stack:=Ej qual scope s.heap.objs.size f cd::outer
 ex:=[]
 calm:=true
 fn:=λ_=>true
 pn:=[]
 xe:=λe s'=>wpAny (model P w) (A.deeper (Ej qual scope s.heap.objs.size f cd)) (leaving (Ej qual scope s.heap.objs.size f cd) e) (λ_ s''=>CX outer H s E e s'') (λe' s''=>CX outer H s E e' s'') s'
theorem fP{sc:Scope}{n:Nat}{x:Str}(h:sc.names.lookup x=some .cell):∃c,(cellsFrom n sc.names []).lookup x=some c:=by
 have q:=EB sc.names n [] (.inl h)
 exact FQ.mp q
theorem uY{CX:qm}{P:Ak}{w:World}{K:AD}{mg:Str->Option Value}{base:Heap}{N ps:List Str}{qual:Str}{scope:Scope}{f:Addr}{cd:Value}{A:A9}{outer:List Env}{s s1:AI}{H:Hp}{E:XK}{us:List Value}{vs:List V}
  (S:aO N ps scope) (hd:A.handled=none) (e0:qA P w K mg base A outer s H) (hl:vs.length=ps.length) (r:Vals vs us)
  (x:InCallC s s.heap.objs.size (bindL (Ej qual scope s.heap.objs.size f cd).kindOf (ps.zip us) λ_=>none) (cellsFrom (s.heap.objs.size+1) scope.names []) (bindC (Ej qual scope s.heap.objs.size f cd).kindOf (ps.zip us) λ_=>none) s1):
  Inv (j0 CX P w K mg base N qual scope f cd A outer s H E) [] (start N vs) H s1:=by
 have hpl:ps.length<=N.length:=by have:=congrArg Gg S.pre;rw[Ao] at this;omega
 obtain⟨h1,tk,rfl,hk⟩:=x.done
 have kI:∀b:Addr,b ∉ (j0 CX P w K mg base N qual scope f cd A outer s H E).ex:=λb z=>absurd (show b∈([]:List Addr) from z) (by simp)
 refine⟨⟨e0.mod,S.kind,rfl,rfl,AM _,λy z c h1 h2=>?_,λy hy=>?_,λy c _ h=>?_,λ_=>hd,Ef e0.frames,.inr ⟨rfl,rfl⟩,λb z=>absurd z (kI b),e0.bs,e0.oE,λb _ _=>kI b,λb z=>absurd z (kI b),e0.ic,e0.uN⟩,
  rfl,e0.bare,Un.kept hk,⟨_,x.toInCall.ns,λi y v h1 h2 h3=>?_⟩,λy c h=>⟨_,x.cell y c h⟩,e0.hok.fresh (AM _),λy c h=>?_,λp hp=>absurd (show p∈([]:List (Addr×Obj)) from hp) (by simp),e0.hok.kept hk,?_⟩
 ·exact name_of_addr x.apart (BF h1) (BF h2)
 ·have hy:scope.names.lookup y=some .cell∨scope.names.lookup y=some .free:=hy
  rcases hy with hy | hy
  ·exact fP hy
  ·exact absurd rfl (S.SD _ (BF hy))
 ·exact Bx (x.above y c (BF h))
 ·have hi:i<vs.length:=by
   unfold start at h2
   by_cases hi:i<vs.length
   ·exact hi
   ·rw[Aj (by simpa using hi)] at h2
    rw[Fc] at h2
    split at h2<;>cases h2
  have ha:vs[i]? =some v:=by
   unfold start at h2
   rw[An (by simpa using hi),AW] at h2
   cases e:vs[i]? with
   | none=>rw[e] at h2;cases h2
   | some a=>rw[e] at h2;cases h2;rfl
  obtain⟨u,hu,rv⟩:=r.get ha
  have hp:ps[i]? =some y:=by
   rw[<-S.pre,FR (by omega)];exact h1
  have Il:ps.Nodup:=by rw[<-S.pre];exact S.nd.sublist (List.take_sublist _ _)
  refine⟨u,rv,?_⟩
  rcases S.par y (AL hp) with k | k
  ·exact .inl ⟨k,uW Il hp hu k⟩
  ·obtain⟨c,e⟩:=fP (n:=s.heap.objs.size+1) k
   refine .inr ⟨.inl k,c,e,?_⟩
   have q:=x.cell y c e
   rw[uX Il hp hu (by show scope.names.lookup y≠_;rw[k];decide)] at q
   exact q
 ·exact e0.hok.fresh (Bx (x.above y c (BF h)))
 ·unfold start
  show _=N.length
  rw[AG,AB,Bu]
  omega
theorem Po{CX:qm}{P:Ak}{w:World}{K:AD}{mg:Str->Option Value}{base:Heap}{k:Nat}{f:Addr}{name qual:Str}{params:CP}{body:List Stmt}{scope:Scope}{dV kV doc pm cdv ct oc:Value}{an od:Option Addr}
  {osl:Array (Option Value)} {N ps:List Str} {sp:Sp} (lk:K.lookup f=some ⟨oc,od,.func (Aa name qual params body scope dV kV doc pm an cdv ct),osl⟩) (hcd:Af K cdv qual=true) (S:aO N ps scope)
  (len:∀vs H Q E,sp vs H Q E->vs.length=ps.length)
  (hbody:∀(A:A9) (outer:List Env) (s:AI) (H:Hp) (vs:List V) (Q:VK) (E:XK),aP k (A.deeper (Ej qual scope s.heap.objs.size f cdv))->sp vs H Q E->
   ∃t,jE (j0 CX P w K mg base N qual scope f cdv A outer s H E) body t/\t {nx:=λ_ H'=>Q .non H',rt:=Q} (start N vs) H):
  aR P w K mg base CX (k+1) f (Aa name qual params body scope dV kV doc pm an cdv ct) ps sp:=by
 refine⟨len,λA outer s H args us vs Q E hr e0 hb r hsp=>?_⟩
 have hl:=len _ _ _ _ hsp
 have KX:K.In s.heap:=e0.mod.oC.keeps λb o e=>(e0.bs b o e).1
 have lim:s.heap.NoLimit:=e0.mod.nolimit.keeps λb o e=>(e0.bs b o e).1
 have hkind:∀y∈ps.zip us,scope.names.lookup y.1=some .local∨(scope.names.lookup y.1=some .cell/\((cellsFrom (s.heap.objs.size+1) scope.names []).lookup y.1).isSome=true):=λ⟨n,v⟩ hy=>by
  rcases S.par n (DE hy).1 with q | q
  ·exact .inl q
  ·exact .inr ⟨q,EB _ _ _ (.inl q)⟩
 refine EN hr.depth (KX _ _ lk) rfl S.co S.gen rfl (HF KX hcd) (hb _ _ _ _ ?_)
 refine E1 S.kind hkind λenv he s1 x=>?_
 subst he
 refine⟨lim.keeps x.toInCall.keep,codeAny_func ?_⟩
 obtain⟨t,ht,hq⟩:=hbody A outer s H vs Q E (hr.deeper _) hsp
 have I:Inv (j0 CX P w K mg base N qual scope f cdv A outer s H E) [] (start N vs) H s1:=uY S hr.hd e0 hl r x
 refine Bi (ht [] s1 (start N vs) H _ I hq) (λfl s' hs=>?_) λe s' hs=>hs
 have fin:∀{σ':St} {H':Hp} {v:V} {u:Value},Inv (j0 CX P w K mg base N qual scope f cdv A outer s H E) [] σ' H' s'->RelV v u->Q v H'->CE outer P w H s Q u s':=
  λ{σ' H' v u} J rv q=>⟨v,H',J.os,J.bare,J.base,J.hok,rv,q⟩
 cases fl with
 | ret u=>
  obtain⟨v,σ',H',J,rv,q⟩:=hs
  exact fin J rv q
 | next=>
  obtain⟨σ',H',J,q⟩:=hs
  exact fin (v:=V.non) (u:=B5) J rfl q
 | brk=>
  obtain⟨_,_,_,q⟩:=hs
  exact Be q
 | cont=>
  obtain⟨_,_,_,q⟩:=hs
  exact Be q
section
variable{X:Cx}{x:Str}{p pos:Pos}{e:Expr}{es:List Expr}{t:TA}{id T:String}{r:List V->Hp->VK->Prop}
def XO(r:List V->Hp->VK->Prop)(t:TA):TE:=λσ H Q=>t σ H λvs H1=>r vs H1 Q
theorem aL(hc:cS X (.builtin id) r)(hg:Gl X x)(hm:X.mg x=none)(hv:BN x=some (.builtin id))(ha:PA X (e::es) t)(hn:x≠"__name__":=by decide)(hdb:(x == ("__debug__":Str))=false:=by decide)
  (he:BC (e::es) X.env=(false,eval e X.env)::BC es X.env:=by rfl) (hpl:(D_ pos (BC es X.env)).any (·.1)=false:=by rfl):PE X (.Call (.Name x p) (e::es) [] pos) (XO r t):=by
 intro pins s σ H Q I h
 refine B0 (gy I hg hm hv ?_ hn hdb)
 exact PyProof.Rows.callWith_builtin1 (aM (ha pos pins s σ H _ I h) λus s1 ⟨vs,H1,I1,r1,q1⟩=>hc pins s1 σ H1 vs us Q I1 r1 q1) he hpl
theorem bF(hc:cS X (.type T) r)(hg:Gl X x)(hm:X.mg x=none)(hv:BN x=some (.type T))(ha:PA X (e::es) t)(hn:x≠"__name__":=by decide)(hdb:(x == ("__debug__":Str))=false:=by decide)
  (he:BC (e::es) X.env=(false,eval e X.env)::BC es X.env:=by rfl) (hpl:(D_ pos (BC es X.env)).any (·.1)=false:=by rfl):PE X (.Call (.Name x p) (e::es) [] pos) (XO r t):=by
 intro pins s σ H Q I h
 refine B0 (gy I hg hm hv ?_ hn hdb)
 exact BO (aM (ha pos pins s σ H _ I h) λus s1 ⟨vs,H1,I1,r1,q1⟩=>hc pins s1 σ H1 vs us Q I1 r1 q1) he hpl
end
end L2
namespace HT
open PySem PyProof.Rows
section
variable{prog:Ak}{w:World}{A:A9}{E:Value->AI->Prop}{s:AI}
theorem QY{t b:Addr}{vs ws:List Value}{Q:Value->AI->Prop}(ht:IsTup s.heap t vs.toArray)(hb:IsTup s.heap b ws.toArray)(hv:vs≠[])
  (h1:ws=[]->Q (.ref t) s) (h2:ws≠[]->Q (.ref s.heap.objs.size) {s with heap:=s.heap.push {cls:=.type "tuple",data:=.seq (vs++ws).toArray}})
  (hsz:vs.length+ws.length<=sizeLine):wpAny (model prog w) A (CU .Add (.ref t) (.ref b)) Q E s:=by
 obtain⟨⟨cls,dd,data,sl⟩,ho,hc,n,hd⟩:=id ht
 obtain⟨⟨cls2,dd2,data2,sl2⟩,ho2,hc2,n2,hd2⟩:=id hb
 simp only at hc hd hc2 hd2
 subst hc hd hc2 hd2
 have e:vs.toArray++ws.toArray=(vs++ws).toArray:=by simp
 by_cases hw:ws=[]
 ·exact concat_meets ⟨_,ho,rfl⟩ ⟨_,ho2,rfl⟩ Fd G_ EC D6 (Dr _ _)
   (tuple_addW1 t b vs.toArray ws.toArray n n2 dd dd2 sl sl2 (by simpa using hv) (by simp[hw])) ⟨ho,ho2,h1 hw⟩
 ·refine concat_meets ⟨_,ho,rfl⟩ ⟨_,ho2,rfl⟩ Fd G_ EC D6 (Dr _ _)
   (tuple_addW2 t b vs.toArray ws.toArray n n2 dd dd2 sl sl2 (by simpa using hv) (by simpa using hw) (by rw[Ai,Ai];exact hsz)) ⟨ho,ho2,?_⟩
  rw[e]
  exact h2 hw
def br(n d:Nat):Option Int->Nat
 | none=>d
 | some v=>if v<0 then(v+(n:Int)).toNat else min v.toNat n
theorem Nx(n d:Nat):br n d none=d:=rfl
theorem Im(n d k:Nat):br n d (some (k:Int))=min k n:=by
 show(if(k:Int)<0 then((k:Int)+(n:Int)).toNat else min (k:Int).toNat n)=min k n
 rw[if_neg (by omega),Ag]
theorem SE(n d:Nat)(hd:d<=n)(o:Option Int):br n d o<=n:=by
 cases o with
 | none=>exact hd
 | some v=>
  show(if v<0 then(v+(n:Int)).toNat else min v.toNat n)<=n
  by_cases hv:v<0
  ·rw[if_pos hv];omega
  ·rw[if_neg hv];exact Nat.min_le_right _ _
theorem Io(v:Int)(n d:Nat):(if v<0 then max (v+(n:Int)) 0 else min v (n:Int))=((br n d (some v):Nat):Int):=by
 show(if v<0 then max (v+(n:Int)) 0 else min v (n:Int))=(((if v<0 then(v+(n:Int)).toNat else min v.toNat n):Nat):Int)
 by_cases hv:v<0
 ·simp only[if_pos hv];omega
 ·simp only[if_neg hv];omega
theorem JE(lo hi:Option Int)(n:Nat):De lo hi 1 (n:Int)=(((br n 0 lo:Nat):Int),((br n n hi:Nat):Int)):=by
 have h1:¬((1:Int)<0):=by omega
 unfold De
 simp only[h1,if_false]
 refine Prod.ext ?_ ?_
 ·cases lo with
  | none=>rfl
  | some v=>exact Io v n 0
 ·cases hi with
  | none=>rfl
  | some v=>exact Io v n n
theorem JF(i j:Nat):Cf (i:Int) (j:Int) 1=j-i:=by
 unfold Cf
 have h1:(1:Int)>0:=by omega
 simp only[h1,if_true,Int.ediv_one]
 split<;>omega
theorem rL{v:Value}{o:Option Int}{Q:Option Int->AI->Prop}(p:FT v o)(h:Q o s):wpAny (model prog w) A (Builtin.Slice.slicePartIndex v) Q E s:=by
 cases p with
 | none=>exact slicePart_none h
 | int i t=>exact slicePart_int h
theorem j3{sl:Addr}{vl vu:Value}{lo hi:Option Int}{n:Nat}{Q:Int×Int×Nat->AI->Prop}(hs:s.heap.IsSliceOf sl vl vu .none)(pl:FT vl lo)(pu:FT vu hi)
  (h:Q (((br n 0 lo:Nat):Int),1,br n n hi-br n 0 lo) s):wpAny (model prog w) A (E2 (.ref sl) (pure (n:Int))) Q E s:=by
 obtain⟨os,hos,hcs,hds⟩:=id hs
 unfold E2 Builtin.Slice.sliceFields
 refine AA (AA (BA hos hds (x:=vl) rfl (AA (BA hos hds (x:=vu) rfl (AA (BA hos hds (x:=.none) rfl (AH ?_)))))))
 refine AA (slicePart_none ?_)
 show wpAny _ _ (if((1:Int) == 0)=true then _ else _) _ _ s
 rw[if_neg (by decide)]
 refine AA (rL pl (AA (rL pu (AA (AH ?_)))))
 show wpAny _ _ (match De lo hi 1 (n:Int) with | (lo,hi)=>pure (lo,(1:Int),Cf lo hi 1)) _ _ s
 rw[JE lo hi n]
 show wpAny _ _ (pure (((br n 0 lo:Nat):Int),(1:Int),Cf ((br n 0 lo:Nat):Int) ((br n n hi:Nat):Int) 1)) _ _ s
 rw[JF]
 exact AH h
theorem Ny(xs:Array Value)(i k:Nat):((BM k).filterMap λ(m:Nat)=>xs[((i:Int)+(m:Int)*1).toNat]?).toArray=((xs.toList.drop i).take k).toArray:=by
 have e:(λ(m:Nat)=>xs[((i:Int)+(m:Int)*1).toNat]?)=λm=>xs[i+m]? :=by
  funext m
  have:((i:Int)+(m:Int)*1).toNat=i+m:=by omega
  rw[this]
 rw[e]
 have:=pick_run xs i k
 rw[List.filterMap_map] at this
 have e2:((λx=>xs[x]?)∘λx=>i+x)=λm=>xs[i+m]? :=rfl
 rw[e2] at this
 rw[this]
theorem qg{t sl:Addr}{items:Array Value}{vl vu:Value}{lo hi:Option Int}{Q:Value->AI->Prop}(ht:IsTup s.heap t items)(hs:s.heap.IsSliceOf sl vl vu .none)(pl:FT vl lo)(pu:FT vu hi)
  (hw:¬(br items.size 0 lo=0/\br items.size items.size hi=items.size))
  (h:Q (.ref s.heap.objs.size) {s with heap:=s.heap.push {cls:=.type "tuple",data:=.seq ((items.toList.drop (br items.size 0 lo)).take (br items.size items.size hi-br items.size 0 lo)).toArray}})
  (hsz:items.size<=sizeLine):wpAny (model prog w) A (EZ (.ref t) (.ref sl)) Q E s:=by
 have xl:sizeOk (.seq ((items.toList.drop (br items.size 0 lo)).take (br items.size items.size hi-br items.size 0 lo)).toArray):=by
  show((items.toList.drop (br items.size 0 lo)).take (br items.size items.size hi-br items.size 0 lo)).toArray.size<=sizeLine
  rw[Ai,Ao,Fe,A6]
  omega
 have hj:br items.size items.size hi<=items.size:=SE _ _ (AM _) hi
 obtain⟨os,hos,hcs,hds⟩:=id hs
 have hTs:s.TypeIs (.ref sl) "slice":=⟨os,hos,hcs⟩
 unfold EZ
 try with_reducible refine Bb ?_
 first | refine AA (AH ?_) | skip
 refine AA (wpAny_sequenceKey ht.typeIs (by decide) ?_)
 refine AA (BE (name:=By "__getitem__") ht.typeIs Bc
  (BJ Bc ht.typeIs entry_tuple_getitem ?_ (args_tuple_getitem _ _)))
 show wpAny _ _ (E3 (.ref t) >>= _) _ _ s
 refine AA (tupleItemsOf_ ht ?_)
 refine AA (Ck hTs ?_)
 rw[if_pos (by decide)]
 refine AA (j3 hs pl pu ?_)
 have hno:¬((((br items.size 0 lo:Nat):Int) == 0&&(1:Int) == 1&&(br items.size items.size hi-br items.size 0 lo) == items.size)=true):=by
  intro q
  rw[Bg,Bg] at q
  have q1:((br items.size 0 lo:Nat):Int)=0:=eq_of_beq q.1.1
  have q2:br items.size items.size hi-br items.size 0 lo=items.size:=eq_of_beq q.2
  exact hw ⟨by omega,by omega⟩
 show wpAny _ _ (if(((br items.size 0 lo:Nat):Int) == 0&&(1:Int) == 1&&(br items.size items.size hi-br items.size 0 lo) == items.size)=true then _ else _) _ _ s
 rw[if_neg hno,Ny]
 first
  | exact AA (m:=Cq _) (BZ (AH ⟨_,rfl,AH h⟩) xl)
  | exact AA (m:=Cq _) (BZ (AA (AH (AH ⟨_,rfl,AH h⟩))) xl)
  | exact AA (AA (m:=Cq _) (BZ (AH (AH ⟨_,rfl,AH h⟩)) xl))
  | exact AA (AA (m:=Cq _) (BZ (AH ⟨_,rfl,AH h⟩) xl))
end
end HT
namespace L2
open PySem PySem.Spec PyProof.Rows
abbrev TO:=St->Hp->(Option Int->Hp->Prop)->Prop
def PO(X:Cx)(e:Option Expr)(t:TO):Prop:=
 ∀(pins:List (Addr×Obj)) (s:AI) (σ:St) (H:Hp) (Q:Option Int->Hp->Prop),Inv X pins σ H s->t σ H Q->
  wpAny (model X.prog X.w) X.A (evalPart e X.env) (λu s'=>∃o H',Inv X pins σ H' s'/\FT u o/\Q o H') X.xe s
def Ip:TO:=λ_ H Q=>Q none H
def Pp(t:TE):TO:=λσ H Q=>t σ H λx H1=>∃i,x=.int i/\Q (some i) H1
theorem intsAre_of{ns:List Int}:∀{us:List Value},Vals (ns.map V.int) us->Ft us ns:=by
 induction ns with
 | nil=>intro us r;rw[ED] at r;cases r;exact .nil
 | cons n ns ih=>
  intro us r
  rw[Ap] at r
  cases r with
  | cons r1 r2=>
   obtain⟨t,e⟩:=r1
   subst e
   exact .cons n t (ih r2)
section
variable{X:Cx}{e:Expr}{te:TE}{lo hi:Option Expr}{tl th:TO}{pos p2:Pos}
theorem hG:PO X none Ip:=by
 intro pins s σ H Q I h
 rw[evalPart_none]
 exact AH ⟨none,H,I,.none,h⟩
theorem jR(h:PE X e te):PO X (some e) (Pp te):=by
 intro pins s σ H Q I hw
 rw[evalPart_some]
 refine aM (h pins s σ H _ I hw) λu s1 ⟨x,H1,I1,r1,q1⟩=>?_
 obtain⟨i,rfl,q⟩:=q1
 obtain⟨t,rfl⟩:=r1
 exact⟨some i,H1,I1,.int i t,q⟩
def Iq(X:Cx)(r:V->Option Int->Option Int->Hp->VK->Prop):Prop:=
 ∀(pins:List (Addr×Obj)) (s:AI) (σ:St) (H:Hp) (x:V) (v vl vu:Value) (lo hi:Option Int) (sl:Addr) (Q:VK),Inv X pins σ H s->RelV x v->s.heap.IsSliceOf sl vl vu .none->FT vl lo->FT vu hi->r x lo hi H Q->
  ∃T id,E4 (.type T) "__getitem__"=pure (some (.builtin id))/\s.TypeIs v T/\wpAny (model X.prog X.w) X.A (EZ v (.ref sl)) (EP X pins σ Q) X.xe s
def tSl(r:V->Option Int->Option Int->Hp->VK->Prop)(te:TE)(tl th:TO):TE:=λσ H Q=>te σ H λx H1=>tl σ H1 λl H2=>th σ H2 λu H3=>r x l u H3 Q
theorem mS{r:V->Option Int->Option Int->Hp->VK->Prop}(hr:Iq X r)(he:PE X e te)(hl:PO X lo tl)(hu:PO X hi th):PE X (.Subscript e (.Slice lo hi none p2) pos) (tSl r te tl th):=by
 intro pins s σ H Q I h
 refine Fu (aM (he pins s σ H _ I h) λv s1 ⟨x,H1,I1,r1,q1⟩=>?_)
 refine wpAny_Slice (aM (hl pins s1 σ H1 _ I1 q1) λvl s2 ⟨l,H2,I2,pl,q2⟩=>aM (hu pins s2 σ H2 _ I2 q2) λvu s3 ⟨u,H3,I3,pu,q3⟩=>?_)
 rw[evalPart_none]
 refine AH ?_
 have I4:Inv X pins σ H3 {s3 with heap:=s3.heap.push {cls:=.type "slice",data:=.fields #[vl,vu,.none]}}:=I3.kept (t':=s3.toks) λb ob q=>AE _ q
 obtain⟨T,id,hT,ht,hg⟩:=hr pins {s3 with heap:=s3.heap.push {cls:=.type "slice",data:=.fields #[vl,vu,.none]}} σ H3 x v vl vu l u s3.heap.objs.size Q I4 r1 (HG ..) pl pu q3
 show wpAny (model X.prog X.w) X.A (Ea e (.Slice lo hi none p2) v (.ref s3.heap.objs.size)) (EP X pins σ Q) X.xe {s3 with heap:=s3.heap.push {cls:=.type "slice",data:=.fields #[vl,vu,.none]}}
 exact tail_any (ops:=[.ref s3.heap.objs.size,v]) ht hT hg (by with_unfolding_all rfl)
def j4(xs:List V)(lo hi:Option Int):List V:=(xs.drop (HT.br xs.length 0 lo)).take (HT.br xs.length xs.length hi-HT.br xs.length 0 lo)
theorem qo(xs:List V)(lo hi:Option Int):(j4 xs lo hi).length<=xs.length:=by
 unfold j4
 rw[Ao,Fe]
 omega
def Zu(K:AD):V->Option Int->Option Int->Hp->VK->Prop:=λx lo hi H Q=>∃a xs,x=.ref a/\aZ K H a xs/\
 ¬(HT.br xs.length 0 lo=0/\HT.br xs.length xs.length hi=xs.length)/\∀p,H p=none->Q (.ref p) (upd H p (.tup (j4 xs lo hi)))
theorem SF:Iq X (Zu X.K):=by
 intro pins s σ H x v vl vu lo hi sl Q I rx hs pl pu h
 obtain⟨a,xs,rfl,hx,hw,q⟩:=h
 cases rx
 obtain⟨its,r,ht,hz⟩:=I.tuple hx
 have hlen:its.toArray.size=xs.length:=by rw[Ai];exact r.length.symm
 refine⟨"tuple",_,Bc.lookup,ht.typeIs,?_⟩
 refine HT.qg ht hs pl pu (by rw[hlen];exact hw) ?_ (by rw[hlen];exact hz)
 rw[hlen]
 refine⟨.ref s.heap.objs.size,_,I.laid (t':=s.toks) (o:=.tup (j4 xs lo hi)) (λb ob q=>AE _ q) (AM _) ?_,rfl,q _ (I.hok.fresh (AM _))⟩
 exact⟨⟨BB (qo xs lo hi) hz,_,AO _ rfl,rfl⟩,_,(r.drop (HT.br xs.length 0 lo)).take (HT.br xs.length xs.length hi-HT.br xs.length 0 lo),IsTup.new _ _⟩
def WV(K:AD):R2:=λx y H Q=>∃a b xs ys,x=.ref a/\y=.ref b/\aZ K H a xs/\aZ K H b ys/\xs≠[]/\xs.length+ys.length<=sizeLine/\
 (ys=[]->Q (.ref a) H)/\(ys≠[]->∀p,H p=none->Q (.ref p) (upd H p (.tup (xs++ys))))
theorem Vals.tP{xs:List V}{us:List Value}(r:Vals xs us):us=[]↔xs=[]:=by
 cases r with
 | nil=>simp
 | cons _ _=>simp
theorem Ir:dm X (CU .Add) (WV X.K):=by
 intro pins s σ H x y v u Q I rx ry h
 obtain⟨a,b,xs,ys,rfl,rfl,ha,hb,hx,hz,q1,q2⟩:=h
 cases rx
 cases ry
 obtain⟨its,r1,p1,_⟩:=I.tuple ha
 obtain⟨its2,r2,p2,_⟩:=I.tuple hb
 refine HT.QY p1 p2 (λz=>hx (r1.tP.mp z)) (λz=>⟨.ref a,H,I,rfl,q1 (r2.tP.mp z)⟩) (λz=>?_) (by rw[<-r1.length,<-r2.length];exact hz)
 refine⟨.ref s.heap.objs.size,_,I.laid (t':=s.toks) (o:=.tup (xs++ys)) (λb ob q=>AE _ q) (AM _) ?_,rfl,q2 (λw=>z (r2.tP.mpr w)) _ (I.hok.fresh (AM _))⟩
 exact⟨⟨by rw[AG];exact hz,_,AO _ rfl,rfl⟩,_,r1.append r2,IsTup.new _ _⟩
end
def uZ(n:Nat)(i:Int):Option Nat:=if 0<=i then(if i<n then some i.toNat else none) else if-(n:Int)<=i then some (i+n).toNat else none
def je{α:Type}(xs:List α)(i:Int):Option α:=(uZ xs.length i).bind λj=>xs[j]?
theorem QZ{n:Nat}{i:Int}{j:Nat}(h:uZ n i=some j):seqIndex? i n=some j/\j<n/\ -(n:Int)<=i/\i<n:=by
 unfold uZ at h
 by_cases h0:0<=i
 ·rw[if_pos h0] at h
  by_cases h1:i<n
  ·rw[if_pos h1] at h
   have e:i.toNat=j:=AS h
   exact⟨by rw[seqIndex_of h0 h1,e],by omega,by omega,h1⟩
  ·rw[if_neg h1] at h;cases h
 ·rw[if_neg h0] at h
  by_cases h1: -(n:Int)<=i
  ·rw[if_pos h1] at h
   have e:(i+n).toNat=j:=AS h
   exact⟨by rw[seqIndex_neg (by omega) h1,e],by omega,h1,by omega⟩
  ·rw[if_neg h1] at h;cases h
theorem tQ{α:Type}{xs:List α}{i:Int}{v:α}(h:je xs i=some v):∃j,seqIndex? i xs.length=some j/\xs[j]? =some v/\j<xs.length/\ -(xs.length:Int)<=i/\i<xs.length:=by
 unfold je at h
 cases e:uZ xs.length i with
 | none=>rw[e] at h;cases h
 | some j=>
  rw[e] at h
  obtain⟨h1,h2,h3,h4⟩:=QZ e
  exact⟨j,h1,h,h2,h3,h4⟩
theorem au{α:Type}{xs:List α}{j:Nat}{v:α}(h:xs[j]? =some v):je xs (j:Int)=some v:=by
 have hj:j<xs.length:=(AF.mp h).1
 have e:uZ xs.length (j:Int)=some j:=by
  unfold uZ
  rw[if_pos (by omega),if_pos (by omega)];simp
 unfold je;rw[e];exact h
theorem Nz{α:Type}(xs:List α)(v:α):je (xs++[v]) (-1)=some v:=by
 have hl:(xs++[v]).length=xs.length+1:=by simp
 have e:uZ (xs++[v]).length (-1)=some xs.length:=by
  unfold uZ
  rw[hl,if_neg (by decide),if_pos (by omega)]
  congr 1
  omega
 unfold je
 rw[e]
 show(xs++[v])[xs.length]? =some v
 simp
def Q_(b:Expr):Prop:=∀o i,Gh b false o i=operate [o,i] (EZ o i)
def Iu(X:Cx)(r:R2):Prop:=
 ∀(value slice:Expr) (pins:List (Addr×Obj)) (s:AI) (σ:St) (H:Hp) (x y:V) (v u:Value) (Q:VK),Inv X pins σ H s->RelV x v->RelV y u->r x y H Q->
  Gh slice false v u=operate [v,u] (EZ v u)->wpAny (model X.prog X.w) X.A (Ea value slice v u) (EP X pins σ Q) X.xe s
def SG(X:Cx)(id:String)(r:V->List V->Hp->VK->Prop):Prop:=
 ∀(pins:List (Addr×Obj)) (s:AI) (σ:St) (H:Hp) (x:V) (xs:List V) (v:Value) (us:List Value) (Q:VK),Inv X pins σ H s->RelV x v->Vals xs us->r x xs H Q->
  wpAny (model X.prog X.w) X.A (call (.builtin id) (v::us)) (EP X pins σ Q) X.xe s
section
variable{X:Cx}{a b:Expr}{ta tb:TE}{pos:Pos}
theorem aB{r:R2}(hr:Iu X r)(ha:PE X a ta)(hb:PE X b tb)(hs:Q_ b):PE X (.Subscript a b pos) (Pk r ta tb):=by
 intro pins s σ H Q I h
 exact Fu (Nq ha hb I h λv u s2 x y H2 I2 rx ry q=>hr a b pins s2 σ H2 x y v u Q I2 rx ry q (hs _ _))
def SH(K:AD):R2:=λx y H Q=>∃p xs i v,x=.ref p/\y=.int i/\bz K H p xs/\je xs i=some v/\Q v H
def SJ(K:AD):R2:=λx y H Q=>∃p xs i v,x=.ref p/\y=.int i/\aZ K H p xs/\je xs i=some v/\Q v H
def Zv:R2:=λx y H Q=>∃z i c,x=.str z/\y=.int i/\z.length<=sizeLine/\je z.cps.toList i=some c/\Q (.str ⟨#[c]⟩) H
theorem Q0:Iu X (SH X.K):=by
 intro value slice pins s σ H x y v u Q I rx ry h hs
 obtain⟨p,xs,i,z,rfl,rfl,hq,he,q⟩:=h
 cases rx
 obtain⟨t,rfl⟩:=ry
 obtain⟨its,r,pl,hz⟩:=I.list hq
 obtain⟨j,h1,h2,h3,h4,h5⟩:=tQ he
 obtain⟨w,ew,il⟩:=r.get h2
 have hl:=r.length
 have hn:=lU
 have fin:EP X pins σ Q w s:=⟨z,H,I,il,q⟩
 by_cases h0:0<=i
 ·have hj:i.toNat=j:=by
   rw[seqIndex_of h0 h5] at h1
   exact AS h1
  exact item_listR pl.isList h0 (by omega) (by rw[hj];simpa using ew) fin hs
 ·have hj:(i+(its.toArray.size:Int)).toNat=j:=by
   rw[seqIndex_neg (by omega) h4] at h1
   rw[Ai,<-hl]
   exact AS h1
  exact subscriptTail_builtinR (x:=w) pl.isList.typeIs slot_list_getitem.lookup
   (wpAny_getItem_list_neg (Q:=λr s'=>r=w/\EP X pins σ Q r s') pl.isList (by omega) (by rw[Ai]<;>omega) (by omega) (by rw[hj];simpa using ew) ⟨rfl,fin⟩) hs
theorem SK:Iu X (SJ X.K):=by
 intro value slice pins s σ H x y v u Q I rx ry h hs
 obtain⟨p,xs,i,z,rfl,rfl,hq,he,q⟩:=h
 cases rx
 obtain⟨t,rfl⟩:=ry
 obtain⟨its,r,pl,hz⟩:=I.tuple hq
 obtain⟨j,h1,h2,h3,h4,h5⟩:=tQ he
 obtain⟨w,ew,il⟩:=r.get h2
 have hl:=r.length
 have hn:=lU
 have fin:EP X pins σ Q w s:=⟨z,H,I,il,q⟩
 exact subscriptTail_builtinR (x:=w) pl.typeIs slot_tuple_getitem.lookup
  (getItem_tuple (j:=j) (Q:=λr s'=>r=w/\EP X pins σ Q r s') pl (by omega) (by omega) (by rw[Ai,<-hl];exact h1) (by simpa using ew) ⟨rfl,fin⟩) hs
theorem KY:Iu X Zv:=by
 intro value slice pins s σ H x y v u Q I rx ry h hs
 obtain⟨z,i,c,rfl,rfl,hz,he,q⟩:=h
 obtain⟨t,rfl⟩:=rx
 obtain⟨t',rfl⟩:=ry
 obtain⟨j,h1,h2,h3,h4,h5⟩:=tQ he
 have hl:z.cps.toList.length=z.length:=by simp[Str.length]
 rw[hl] at h1 h4 h5
 have hn:=lU
 exact tail_any (E5 s z t) slot_str_getitem.lookup (getItem_str (c:=c) (by
  have e1:decide (i< -(2 ^ 63:Int))=false:=decide_eq_false (by omega)
  have e2:decide (i ≥ 2 ^ 63)=false:=decide_eq_false (by omega)
  rw[e1,e2,Bool.or_false]) (by rw[h1];simpa using h2) ⟨.str ⟨#[c]⟩,H,I.tok _,⟨_,rfl⟩,q⟩) hs
theorem xC(lo hi:Option Int)(n:Nat):(D7 lo hi none n).1=((HT.br n 0 lo:Nat):Int)/\(D7 lo hi none n).2.1=((HT.br n n hi:Nat):Int)/\(D7 lo hi none n).2.2=1:=by
 refine⟨?_,?_,rfl⟩
 ·cases lo with
  | none=>simp[D7,HT.br]
  | some i=>
   simp only[D7,HT.br,Option.getD_none,show(1:Int)>0 by decide,if_true]
   by_cases h:i<0
   ·simp only[h,if_true]<;>omega
   ·simp only[h,if_false]<;>omega
 ·cases hi with
  | none=>simp[D7,HT.br]
  | some i=>
   simp only[D7,HT.br,Option.getD_none,show(1:Int)>0 by decide,if_true]
   by_cases h:i<0
   ·simp only[h,if_true]<;>omega
   ·simp only[h,if_false]<;>omega
theorem vW(its:List Value)(lo hi:Option Int):slicePick its.toArray lo hi none=((its.drop (HT.br its.length 0 lo)).take (HT.br its.length its.length hi-HT.br its.length 0 lo)).toArray:=by
 obtain⟨h1,h2,h3⟩:=xC lo hi its.toArray.size
 unfold slicePick
 rw[h1,h2,h3]
 simp only[sliceRange_one,pick_run,Ai]<;>rfl
def SM(K:AD):V->Option Int->Option Int->Hp->VK->Prop:=λx lo hi H Q=>∃a xs,x=.ref a/\bz K H a xs/\∀p,H p=none->Q (.ref p) (upd H p (.lst (j4 xs lo hi)))
theorem Q3:Iq X (SM X.K):=by
 intro pins s σ H x v vl vu lo hi sl Q I rx hs pl pu h
 obtain⟨a,xs,rfl,hx,q⟩:=h
 cases rx
 obtain⟨its,r,ht,hz⟩:=I.list hx
 have hlen:=r.length
 refine⟨"list",_,slot_list_getitem.lookup,ht.isList.typeIs,?_⟩
 refine FU ht.isList hs pl pu .none (by simp) ?_ (by rw[Ai]<;>omega)
 rw[vW,<-hlen]
 refine⟨.ref s.heap.objs.size,_,I.laid (t':=s.toks) (o:=.lst (j4 xs lo hi)) (λb ob q=>AE _ q) (AM _) ?_,rfl,q _ (I.hok.fresh (AM _))⟩
 exact⟨BB (qo xs lo hi) hz,_,0,(r.drop (HT.br xs.length 0 lo)).take (HT.br xs.length xs.length hi-HT.br xs.length 0 lo),AO _ rfl⟩
def ip:V->Bool
 | .non=>true
 | .bl _=>true
 | .int _=>true
 | .str _=>true
 | _=>false
def lV:V->V->Bool
 | .non,.non=>true
 | .bl a,.bl b=>a == b
 | .bl a,.int b=>(if a then 1 else 0) == b
 | .int a,.bl b=>a == (if b then 1 else 0)
 | .int a,.int b=>a == b
 | .str a,.str b=>a == b
 | _,_=>false
theorem KZ{A:A9}{s:AI}{y x:V}{u v:Value}(ry:RelV y u)(rx:RelV x v)(fy:ip y=true)(fx:ip x=true):CW A s u v (lV y x):=by
 cases y with
 | non=>
  cases ry
  cases x with
  | non=>cases rx;exact He _
  | bl b=>cases rx;exact SeqAt.EqAt.none_bool b
  | int b=>obtain⟨t,rfl⟩:=rx;exact SeqAt.EqAt.none_int b t
  | str b=>obtain⟨t,rfl⟩:=rx;exact SeqAt.EqAt.none_str b t
  | _=>exact absurd (show false=true from fx) Am
 | bl a=>
  cases ry
  cases x with
  | non=>cases rx;exact SeqAt.EqAt.bool_none a
  | bl b=>cases rx;exact SeqAt.EqAt.bool_bool a b
  | int b=>obtain⟨t,rfl⟩:=rx;exact SeqAt.EqAt.bool_int a b t
  | str b=>obtain⟨t,rfl⟩:=rx;exact SeqAt.EqAt.bool_str a b t
  | _=>exact absurd (show false=true from fx) Am
 | int a=>
  obtain⟨t',rfl⟩:=ry
  cases x with
  | non=>cases rx;exact SeqAt.EqAt.int_none a t'
  | bl b=>cases rx;exact SeqAt.EqAt.int_bool a t' b
  | int b=>obtain⟨t,rfl⟩:=rx;exact SeqAt.EqAt.int_int a t' b t
  | str b=>obtain⟨t,rfl⟩:=rx;exact HA a t' b t
  | _=>exact absurd (show false=true from fx) Am
 | str a=>
  obtain⟨t',rfl⟩:=ry
  cases x with
  | non=>cases rx;exact SeqAt.EqAt.str_none a t'
  | bl b=>cases rx;exact SeqAt.EqAt.str_bool a t' b
  | int b=>obtain⟨t,rfl⟩:=rx;exact HB a t' b t
  | str b=>obtain⟨t,rfl⟩:=rx;exact SeqAt.EqAt.str_str a t' b t
  | _=>exact absurd (show false=true from fx) Am
 | _=>exact absurd (show false=true from fy) Am
def rM(x:V)(u:Value):Bool:=match u with
 | .none=>lV .non x
 | .bool b=>lV (.bl b) x
 | .int i _=>lV (.int i) x
 | .str z _=>lV (.str z) x
 | _=>false
theorem K_{x y:V}{u:Value}(r:RelV y u)(f:ip y=true):rM x u=lV y x:=by
 cases y with
 | non=>cases r;rfl
 | bl b=>cases r;rfl
 | int i=>obtain⟨t,rfl⟩:=r;rfl
 | str z=>obtain⟨t,rfl⟩:=r;rfl
 | _=>exact absurd (show false=true from f) Am
theorem tR{x:V}:∀{xs:List V} {us:List Value},Vals xs us->xs.all ip=true->us.any (rM x)=xs.any λy=>lV y x
 | _,_,.nil,_=>rfl
 | y::xs,u::us,.cons r t,f=>by
  rw[Eb,Bg] at f
  rw[Cr,Cr,K_ r f.1,tR t f.2]
theorem qB{A:A9}{s:AI}{x:V}{v:Value}(rx:RelV x v)(fx:ip x=true):∀{xs:List V} {us:List Value},Vals xs us->xs.all ip=true->∀u∈us,CW A s u v (rM x u)
 | _,_,.nil,_=>λu hu=>by cases hu
 | y::xs,u::us,.cons r t,f=>λu' hu=>by
  rw[Eb,Bg] at f
  rcases Ac.mp hu with rfl | hu
  ·rw[K_ r f.1];exact KZ r rx f.1 fx
  ·exact qB rx fx t f.2 u' hu
def inV(x:V)(xs:List V):Bool:=xs.any λy=>lV y x
def XQ(K:AD)(neg:Bool):R2:=λx y H Q=>∃p xs,y=.ref p/\(bz K H p xs∨aZ K H p xs)/\ip x=true/\xs.all ip=true/\Q (.bl (if neg then !inV x xs else inV x xs)) H
theorem K0:dm X (Bt .In) (XQ X.K false):=by
 intro pins s σ H x y v u Q I rx ry h
 obtain⟨p,xs,rfl,hq,fx,fs,q⟩:=h
 cases ry
 rcases hq with hq | hq
 ·obtain⟨its,r,pl,hz⟩:=I.list hq
  refine SeqAt.in_listAt (rM x) pl.isList (λw hw=>qB rx fx r fs w (by simpa using hw)) ⟨.bl _,H,I,rfl,?_⟩
  rw[show its.toArray.any (rM x)=its.any (rM x) by simp,tR r fs]
  exact q
 ·obtain⟨its,r,pl,hz⟩:=I.tuple hq
  refine SeqAt.in_tupleAt (rM x) pl (λw hw=>qB rx fx r fs w (by simpa using hw)) ⟨.bl _,H,I,rfl,?_⟩
  rw[show its.toArray.any (rM x)=its.any (rM x) by simp,tR r fs]
  exact q
theorem vX:cS X (.type "tuple") (λxs H Q=>∃p ys,xs=[.ref p]/\((bz X.K H p ys/\∀l,H l=none->Q (.ref l) (upd H l (.tup ys)))∨(aZ X.K H p ys/\Q (.ref p) H))):=by
 intro pins s σ H xs us Q I r h
 obtain⟨p,ys,rfl,h⟩:=h
 obtain⟨u,rfl,rx⟩:=vals1 r
 cases rx
 rcases h with⟨hq,q⟩ | ⟨hq,q⟩
 ·obtain⟨its,r',pl,hz⟩:=I.list hq
  have hlen:=r'.length
  refine call_tuple_list pl.isList (λh' kp=>?_) (by simp only[Ai]<;>omega)
  have I1:Inv X pins σ H {s with heap:=h'}:=I.kept (t':=s.toks) kp
  have I2:Inv X pins σ (upd H h'.objs.size (.tup ys)) {s with heap:=h'.push {cls:=.type "tuple",data:=.seq its.toArray}}:=
   I1.laid (t':=s.toks) (λb o e=>AE _ e) (AM _) (show bM X.prog X.w _ _ _ (.tup ys) from⟨⟨hz,_,AO _ rfl,rfl⟩,its,r',IsTup.new _ _⟩)
  exact⟨.ref h'.objs.size,_,I2,rfl,q _ (I1.hok.fresh (AM _))⟩
 ·obtain⟨its,r',pl,hz⟩:=I.tuple hq
  exact call_tuple_same pl ⟨.ref p,H,I,rfl,q⟩
def SN(K:AD)(T:String)(x:V)(H:Hp):Prop:=match x with
 | .str _=>T="str"
 | .int _=>T="int"
 | .ref p=>(T="list"/\∃xs,bz K H p xs)∨(T="tuple"/\∃o,K.lookup p=some o/\o.cls=.type "tuple"/\o.dict=none)∨
   (T="dict"/\((∃kvs,H p=some (.dK kvs))∨∃kvs,H p=some (.dT kvs)))∨(T="set"/\∃S n,H p=some (.set S n))
 | _=>False
theorem K1{pins:List (Addr×Obj)}{σ:St}{H:Hp}{s:AI}{T:String}{x:V}{v:Value}(I:Inv X pins σ H s)(r:RelV x v)(ty:SN X.K T x H):
  s.TypeIs v T/\∀a,v=.ref a->∃ob,s.heap.get? a=some ob/\ob.dict=none:=by
 cases x with
 | str z=>
  obtain⟨t,rfl⟩:=r
  cases(show T="str" from ty)
  exact⟨E5 s z t,λ_ e=>nomatch e⟩
 | int i=>
  obtain⟨t,rfl⟩:=r
  cases(show T="int" from ty)
  exact⟨typeIs_int s i t,λ_ e=>nomatch e⟩
 | ref p=>
  cases r
  rcases ty with⟨rfl,xs,hq⟩ | ⟨rfl,o,hk,hc,hd⟩ | ⟨rfl,hk⟩ | ⟨rfl,S,n,hk⟩
  ·obtain⟨its,_,pl,_⟩:=I.list hq
   refine⟨pl.isList.typeIs,λa e=>?_⟩
   cases e
   obtain⟨o,n,e,c,hd,_⟩:=pl
   exact⟨o,e,hd⟩
  ·refine⟨⟨o,I.gx p o hk,hc⟩,λa e=>?_⟩
   cases e
   exact⟨o,I.gx _ o hk,hd⟩
  ·have z:∃o,s.heap.get? p=some o/\o.ExactDict:=by
    rcases hk with⟨kvs,hk⟩ | ⟨kvs,hk⟩
    ·obtain⟨_,_,_,_,o,_,_,e,ex,_⟩:=I.hok p _ hk
     exact⟨o,e,ex⟩
    ·obtain⟨_,_,_,_,o,_,_,e,ex,_⟩:=I.hok p _ hk
     exact⟨o,e,ex⟩
   obtain⟨o,e,ex⟩:=z
   refine⟨⟨o,e,ex.1⟩,λa e2=>?_⟩
   cases e2
   exact⟨o,e,ex.2.1⟩
  ·obtain⟨o,_,_,_,e,ex,_⟩:=I.hok p _ hk
   refine⟨⟨o,e,ex.1⟩,λa e2=>?_⟩
   cases e2
   exact⟨o,e,ex.2.1⟩
 | _=>exact Be ty
def SO(K:AD)(T:String)(r:V->List V->Hp->VK->Prop)(to:TE):TE:=λσ H Q=>to σ H λx H1=>SN K T x H1/\r x [] H1 Q
def tBM(K:AD)(T:String)(r:V->List V->Hp->VK->Prop)(to:TE)(t:TA):TE:=λσ H Q=>to σ H λx H1=>SN K T x H1/\t σ H1 λxs H2=>r x xs H2 Q
variable{o e:Expr}{es:List Expr}{to:TE}{t:TA}{name:Str}{apos cpos:Pos}{T id:String}{r:V->List V->Hp->VK->Prop}
theorem xD(pa:PlainAttrs T)(slot:Slot T name id)(hty:typeOf (.builtin id)=pure (.type "method_descriptor"))(hm:SG X id r)(ho:PE X o to)
  (hbase:FV o name X.env (eval o X.env)=eval o X.env:=by rfl) (hline:(apos.endLine == cpos.line)=true:=by rfl):PE X (.Call (.Attribute o name apos) [] [] cpos) (SO X.K T r to):=by
 intro pins s σ H Q I h
 refine wpAny_Call_method0_late hbase hline (aM (ho pins s σ H _ I h) λv s1 ⟨x,H1,I1,r1,ty,q1⟩=>?_)
 obtain⟨h1,h2⟩:=K1 I1 r1 ty
 exact⟨T,id,pa,slot,hty,h1,h2,C9 rfl (PySem.evalArgs_none (hm pins s1 σ H1 x [] v [] Q I1 r1 .nil q1))⟩
theorem dO(pa:PlainAttrs T)(slot:Slot T name id)(hty:typeOf (.builtin id)=pure (.type "method_descriptor"))(hm:SG X id r)(ho:PE X o to)(ha:PA X (e::es) t)
  (hbase:FV o name X.env (eval o X.env)=eval o X.env:=by rfl)
  (hfew:((D_ cpos (BC (e::es) X.env)).all (λx=> !x.1)&&(backToKw cpos (keywordEach [] X.env)).all (λx=>x.1.isSome)
   &&decide ((e::es).length+([]:List Keyword).length+(if([]:List Keyword).isEmpty then 0 else 1)<30))=true:=by rfl)
  (hline:(apos.endLine == cpos.line)=true:=by rfl) (hs:BC (e::es) X.env=(false,eval e X.env)::BC es X.env:=by rfl) (hplain:(D_ cpos (BC es X.env)).any (·.1)=false:=by rfl):
  PE X (.Call (.Attribute o name apos) (e::es) [] cpos) (tBM X.K T r to t):=by
 intro pins s σ H Q I h
 refine wpAny_Call_method_late hbase hfew hline rfl (aM (ho pins s σ H _ I h) λv s1 ⟨x,H1,I1,r1,ty,q1⟩=>?_)
 obtain⟨h1,h2⟩:=K1 I1 r1 ty
 refine⟨T,id,pa,slot,hty,h1,h2,?_⟩
 have hA:=ha cpos pins s1 σ H1 _ I1 q1
 rw[hs] at hA ⊢
 refine C9 (by show(false||(D_ cpos (BC es X.env)).any (·.1))=false;rw[hplain]<;>rfl) (DT ?_)
 exact aM hA λus s2 ⟨vs,H2,I2,r2,q2⟩=>hm pins s2 σ H2 x vs v us Q I2 r1 r2 q2
end
def xE(X:Cx)(id:String)(r:V->List V->Hp->VK->Prop):Prop:=
 ∀(pins:List (Addr×Obj)) (s:AI) (σ:St) (H:Hp) (x:V) (xs:List V) (v:Value) (us:List Value) (Q:VK),Inv X pins σ H s->RelV x v->Vals xs us->r x xs H Q->
  wpAny (model X.prog X.w) X.A (call (.builtin id) (v::us)) (EP X pins σ Q) X.xe s
theorem Vals.one:∀{x:V} {us:List Value},Vals [x] us->∃u,us=[u]/\RelV x u
 | _,_,.cons r .nil=>⟨_,rfl,r⟩
theorem Vals.zero:∀{us:List Value},Vals [] us->us=[]
 | _,.nil=>rfl
theorem Vals.dropLast{xs:List V}{us:List Value}(h:Vals xs us):Vals xs.dropLast us.dropLast:=by
 induction h with
 | nil=>exact .nil
 | cons r t ih=>
  cases t with
  | nil=>exact .nil
  | cons q t'=>exact .cons r ih
theorem JG{α:Type}(l:List α):l.eraseIdx (l.length-1)=l.dropLast:=by
 induction l with
 | nil=>rfl
 | cons a r ih=>
  cases r with
  | nil=>rfl
  | cons b r=>
   have e:(a::b::r).length-1=((b::r).length-1)+1:=by
    have h1:(a::b::r).length=r.length+2:=rfl
    have h2:(b::r).length=r.length+1:=rfl
    omega
   rw[e,List.eraseIdx_cons_succ,ih]
   all_goals rfl
section
variable{X:Cx}{pins:List (Addr×Obj)}{σ:St}{H:Hp}{s:AI}{l b:Addr}{xs ys zs:List V}
theorem Inv.JH{its its':List Value}{n:Nat}{f:Array Value->Array Value}{t':Nat}(I:Inv X pins σ H s)(hH:H l=some (.lst xs))
  (e:s.heap.get? l=some {cls:=.type "list",data:=.seq its.toArray n}) (hf:f its.toArray=its'.toArray) (hv:Vals ys its') (hz:ys.length<=sizeLine):
  Inv X pins σ (upd H l (.lst ys)) {s with heap:=s.heap.update l (DU f),toks:=t'}:=by
 have q:=PySem.IsL.update e f
 rw[hf] at q
 refine I.write (x:=l) (e:=l) (by rw[hH];exact trivial) (.inl rfl) (λb' u hb hu=>(C_ s.heap (DU f) (DM hb)).trans hu) ⟨_,q⟩ ?_
 exact⟨hz,its',_,hv,q⟩
theorem Inv.Zw{its:List Value}{t':Nat}(I:Inv X pins σ H s)(hv:Vals ys its)(hz:ys.length<=sizeLine):
  Inv X pins σ (upd H s.heap.objs.size (.lst ys)) {s with heap:=s.heap.push {cls:=.type "list",data:=.seq its.toArray},toks:=t'}:=
 I.laid (λ_ _ q=>AE _ q) (AM _) ⟨hz,its,0,hv,AO _ rfl⟩
theorem Inv.fresh(I:Inv X pins σ H s):H s.heap.objs.size=none:=I.hok.fresh (AM _)
theorem Inv.xF(I:Inv X pins σ H s)(hH:H l=some (.lst xs)):xs.length<=sizeLine/\∃(its:List Value) (n:Nat),Vals xs its/\xs.length=its.length/\s.heap.get? l=some {cls:=.type "list",data:=.seq its.toArray n}:=by
 obtain⟨z,its,n,r,e⟩:=I.hok l _ hH
 exact⟨z,its,n,r,r.length,e⟩
theorem xG{n:Nat}(h:n<=sizeLine):CF n=false:=by
 unfold CF
 exact decide_eq_false (by omega)
end
section
variable{X:Cx}
def Q4:V->List V->Hp->VK->Prop:=λx vs H Q=>∃l xs y,x=.ref l/\vs=[y]/\H l=some (.lst xs)/\xs.length<sizeLine/\Q .non (upd H l (.lst (xs++[y])))
theorem cy:xE X "list.append" Q4:=by
 intro pins s σ H x vs v us Q I rx rv h
 obtain⟨l,xs,y,rfl,rfl,hH,hz,q⟩:=h
 cases rx
 obtain⟨u,rfl,ru⟩:=rv.one
 obtain⟨z,its,n,r,hl,e⟩:=I.xF hH
 refine E6 F.slot_list_append ⟨_,e,rfl⟩ F.entry_list_append (F.args_list_append_2 _ _) (PySem.list_append l its.toArray n u (by rw[Ai];omega)) ⟨e,?_⟩
 refine⟨.non,_,I.JH (its':=its++[u]) hH e (by simp) (r.append (.cons ru .nil)) ?_,rfl,q⟩
 rw[AG,List.length_singleton]
 omega
def Q5:V->List V->Hp->VK->Prop:=λx vs H Q=>∃l b xs zs,x=.ref l/\vs=[.ref b]/\H l=some (.lst xs)/\H b=some (.lst zs)/\xs.length+zs.length<=sizeLine/\Q .non (upd H l (.lst (xs++zs)))
theorem oM:xE X "list.extend" Q5:=by
 intro pins s σ H x vs v us Q I rx rv h
 obtain⟨l,b,xs,zs,rfl,rfl,hH,hB,hz,q⟩:=h
 cases rx
 obtain⟨u,rfl,ru⟩:=rv.one
 cases ru
 obtain⟨z,its,n,r,hl,e⟩:=I.xF hH
 obtain⟨z2,its2,n2,r2,hl2,e2⟩:=I.xF hB
 have hsz:its.toArray.size+its2.toArray.size<=sizeLine:=by rw[Ai,Ai];omega
 have JI:¬(!its.toArray.isEmpty&&CF (its.toArray.size+its2.toArray.size))=true:=by
  rw[xG hsz,EE]
  exact Am
 refine E6 F.slot_list_extend ⟨_,e,rfl⟩ F.entry_list_extend (F.args_list_extend_2 _ _)
  (AutoSeq1.list_extend_list_list_0 l its.toArray n b its2.toArray n2 JI (by rw[Ai];omega) (by omega)) ⟨e,e2,?_⟩
 refine⟨.non,_,I.JH (its':=its++its2) hH e (by simp) (r.append r2) ?_,rfl,q⟩
 rw[AG]
 omega
def Zx:V->List V->Hp->VK->Prop:=λx vs H Q=>∃l xs y,x=.ref l/\vs=[]/\H l=some (.lst xs)/\xs[xs.length-1]? =some y/\Q y (upd H l (.lst xs.dropLast))
theorem K2:xE X "list.pop" Zx:=by
 intro pins s σ H x vs v us Q I rx rv h
 obtain⟨l,xs,y,rfl,rfl,hH,hy,q⟩:=h
 cases rx
 have hus:=rv.zero
 subst hus
 obtain⟨z,its,n,r,hl,e⟩:=I.xF hH
 obtain⟨u,hu,ru⟩:=r.get hy
 have hy':its.toArray[its.toArray.size-1]? =some u:=by
  show its.toArray[its.length-1]? =some u
  rw[<-Bd,<-hl]
  exact hu
 refine E6 F.slot_list_pop ⟨_,e,rfl⟩ F.entry_list_pop (F.args_list_pop_1 _) (MeetsSeq.list_pop_last l its.toArray n u hy' (by rw[Ai];omega)) ⟨e,?_⟩
 refine⟨y,_,I.JH (its':=its.dropLast) hH e ?_ r.dropLast ?_,ru,q⟩
 ·show its.toArray.eraseIdxIfInBounds (its.toArray.size-1)=its.dropLast.toArray
  rw[Ai,List.eraseIdxIfInBounds_toArray,JG]
 ·rw[Gi]
  omega
end
end L2
namespace XR
open PySem PySem.W PySem.Calls PyProof.Rows
theorem rN{P:Gj}{h:Heap}:∀(ns:List Int) (vs:List Value),WellAll P h vs (ns.map WData.int)->Ft vs ns:=by
 intro ns
 induction ns with
 | nil=>
  intro vs w
  rw[ED] at w
  cases w
  exact .nil
 | cons n ns ih=>
  intro vs w
  rw[Ap] at w
  cases w with
  | cons a b=>
   cases a
   exact .cons _ _ (ih _ b)
theorem K3{l:OpenLaw}{n:Nat}(hn:l.most=some n){P:Gj}{h:Heap}{args:List WData}{vals:List Value}
  (hpre:l.row.toRowW.claim.pre args=true) (hwl:WellAll P h vals args):
  ∃a vs ns,vals=[BI a]/\args=[WData.list (ns.map WData.int)]/\h.get? a=some {cls:=.type "list",data:=.seq vs.toArray}/\Ft vs ns/\ns.length<=n:=by
 have hsh:WShape.hasAll [] args [.list .int]=true:=(pre_splitW hpre).1
 have hc:l.pre.holds [] {args:=args}=true:=(pre_splitW hpre).2
 obtain⟨d,r,rfl,h1,h2⟩:=hasAllW_cons hsh
 obtain rfl:=hasAllW_nil h2
 obtain⟨xs,rfl,h3⟩:=hasW_list h1
 obtain⟨ns,rfl⟩:=items_int h3
 have hlen:ns.length<=n:=by
  unfold OpenLaw.pre at hc
  have h4:(WTm.not (.lt (.lit (.int (n:Int))) (.len (.arg 0)))).holds [] {args:=[.list (ns.map .int)]}=true:=by
   have h4:=(holds_andW hc).1
   rw[hn] at h4
   exact h4
  have h5:=condW_of h4 (w_not (w_lt w_lit (w_len_list (w_arg rfl))))
  rw[AB] at h5
  refine Nat.le_of_not_lt λq=>?_
  have q':(n:Int)<((ns.length:Nat):Int):=by omega
  first
   | (rw[decide_eq_true q'] at h5;exact absurd h5 (by decide))
   | (simp at h5;omega)
 cases hwl with
 | cons w1 w2=>
  cases w2
  cases w1 with
  | list ho hall=>exact⟨_,_,ns,rfl,rfl,ho,rN ns _ hall,hlen⟩
theorem K4(l:OpenLaw)(args:List WData):l.row.toRowW.claim.post args (.bool true) args=true:=
 postW_of (r:=l.row.toRowW) (X:=(true == true))
  (show WShape.has [] (.bool true) .bool=true by first | rfl | decide | simp[WShape.has,WShape.arms,WShape.armsAll])
  (show(WTm.eq .res (.lit (.bool true))).value [] {args:=args,res:=some (.bool true),after:=args}=some (.bool (true == true)) from w_eq_bool (w_res rfl) w_lit) rfl
theorem zW{l:OpenLaw}{n:Nat}{q:Ak}{loose:List Str}{XP:(Str->Option Value)->Heap->Prop}{YP:World->Heap->Prop}{d:DefRec}
  (hn:l.most=some n) (hdf:d.params.defaults=[])
  (call:∀(w:World) (s₀ s₁:AI) (mg mb:Str->Option Value) (fa:Addr) (o:Obj) (pm cd doc:Value) (a:Addr) (vs:List Value) (ns:List Int),
   Ground q loose [] XP w s₀ mg mb s₁.heap->YP w s₁.heap->
   s₁.heap.get? fa=some o->o.data=.func (docDef d.name d.params d.body d.scope pm cd doc)->s₁.heap.CodeRec cd d.name->mg d.name=some (.ref fa)->
   s₁.heap.get? a=some {cls:=.type "list",data:=.seq vs.toArray}->Ft vs ns->ns.length<=n->s₁.gens= #[]->
   EY (model l.prog w) Gx (.call (.ref fa) ⟨[.ref a],[]⟩) (λr s'=>r=.ok (.ret (.bool true))/\OldK s₁.heap s'.heap/\s'.os=s₁.os/\FK s'.gens) s₁):
  WalkO q loose XP YP l.row.toRowW d [] (λf vs=>Hg f vs):=by
 intro w s₀ s₁ mg mb G Y fa o pm cd doc dV kV ho hd hcd hD hmg hg args vals as hpre hlay hrd hwl hlo
 obtain rfl:dV=.none:=Dflts.none hD hdf
 obtain rfl:kV=.none:=Dflts.noKw hD
 obtain⟨a,vs,ns,rfl,rfl,hobj,hints,hlen⟩:=K3 hn hpre hwl
 refine enter_call (EA (call w s₀ s₁ mg mb fa o pm cd doc a vs ns G Y ho (fd_plain hd) hcd hmg hobj hints hlen hg) λr s' hq=>?_)
 obtain⟨rfl,h2,h3,h4⟩:=hq
 exact⟨.inl ⟨.bool true,.bool true,[],rfl,λ_=>rfl,.bool true,K4 l _,λ_=>⟨HN,λ_ hm=>(nomatch hm)⟩⟩,h2,h3,h4⟩
end XR
namespace L2
open PySem PySem.Spec PyProof.Rows
theorem u_:∀{vs:List Value} {ns:List Int},Ft vs ns->Vals (ns.map V.int) vs
 | _,_,.nil=>.nil
 | _,_,.cons n t h=>.cons ⟨t,rfl⟩ (u_ h)
def aE(s:Stmt):CP:=match s with
 | .FunctionDef _ a _ _ _ _ _ _ _ _=>a
 | _=>{posonlyargs:=[],args:=[],vararg:=none,kwonlyargs:=[],kw_defaults:=[],kwarg:=none,defaults:=[]}
def aC(s:Stmt):List Stmt:=match s with
 | .FunctionDef _ _ b _ _ _ _ _ _ _=>b
 | _=>[]
def ah(s:Stmt):Scope:=match s with
 | .FunctionDef _ _ _ _ _ _ sc _ _ _=>sc
 | _=>{kind:=.function,names:=[],isGenerator:=false,isCoroutine:=false}
abbrev bj:qm:=λ_ _ _ _ _ _=>False
abbrev E0:XK:=λ_ _ _=>False
theorem aK{X:Cx}:Passes bj X E0:=λ_ _ _ _ _ _ _ h=>h.elim
structure cJ (K:AD)(x qual:Str)(st:Stmt)(f:Addr)(fd:Aw):Prop where
 ex:∃(oc:Value) (od:Option Addr) (kV doc pm:Value) (an:Option Addr) (cdv ct:Value) (osl:Array (Option Value)),
  fd=Aa x qual (aE st) (aC st) (ah st) .none kV doc pm an cdv ct/\K.lookup f=some ⟨oc,od,.func fd,osl⟩/\Af K cdv qual=true
 kp:AK K (.ref f)=true
section
variable{P:Ak}{w:World}{K:AD}{mg:Str->Option Value}{base:Heap}
theorem cJ.ok{x qual:Str}{st:Stmt}{f:Addr}{fd:Aw}{N ps:List Str}{k:Nat}{sp:Sp}(F:cJ K x qual st f fd)(S:aO N ps (ah st))(len:∀vs H Q E,sp vs H Q E->vs.length=ps.length)
  (hbody:∀(cdv:Value) (A:A9) (outer:List Env) (s:AI) (H:Hp) (vs:List V) (Q:VK) (E:XK),aP k (A.deeper (Ej qual (ah st) s.heap.objs.size f cdv))->sp vs H Q E->
   ∃t,jE (j0 bj P w K mg base N qual (ah st) f cdv A outer s H E).ql (aC st) t/\t {nx:=λ_ H'=>Q .non H',rt:=Q} (start N vs) H):aR P w K mg base bj (k+1) f fd ps sp:=by
 obtain⟨oc,od,kV,doc,pm,an,cdv,ct,osl,rfl,lk,hcd⟩:=F.ex
 refine Po lk hcd S len λA outer s H vs Q E hr hsp=>?_
 obtain⟨t,h,q⟩:=hbody cdv A outer s H vs Q E hr hsp
 exact⟨t,h.ql,q⟩
theorem cJ.binds{x qual:Str}{st:Stmt}{f:Addr}{fd:Aw}{ps:List Str}(F:cJ K x qual st f fd)
  (h:∀(kV doc pm:Value) (an:Option Addr) (cdv ct:Value) (us:List Value),us.length=ps.length->Gf (Aa x qual (aE st) (aC st) (ah st) .none kV doc pm an cdv ct) ⟨us,[]⟩=pure (ps.zip us)):Binds K fd ps []:=by
 obtain⟨oc,od,kV,doc,pm,an,cdv,ct,osl,rfl,lk,hcd⟩:=F.ex
 exact .all (h kV doc pm an cdv ct)
theorem bw{x qual:Str}{st:Stmt}{f:Addr}{oc:Value}{od an:Option Addr}{osl:Array (Option Value)}{kV doc pm cdv ct:Value}(l:K.lookup f=some ⟨oc,od,.func (Aa x qual (aE st) (aC st) (ah st) .none kV doc pm an cdv ct),osl⟩)
  (c:Af K cdv qual=true) (k:AK K (.ref f)=true):cJ K x qual st f (Aa x qual (aE st) (aC st) (ah st) .none kV doc pm an cdv ct):=⟨⟨oc,od,kV,doc,pm,an,cdv,ct,osl,rfl,l,c⟩,k⟩
end
theorem ck{A:A9}{k:Nat}(hr:aP k A):A.units+1<cLine:=A7 (Nat.add_le_add_left (by decide:1<=64) _) hr.units
section
variable{X:Cx}
theorem pv(i:Nat){x:Str}{pos:Pos}(hN:X.N[i]? =some x:=by rfl)(hv:Ia X.env.scope x:=by first | exact Ad rfl | exact DK (Ad rfl) | exact DK (DK rfl))(hd:(x == ("__debug__":Str))=false:=by decide)
  (hcd:(x == ("__classdict__":Str))=false:=by decide):PE X (.Name x pos) (Jw i):=Sl hN hv hd hcd
end
theorem dP{A B:Prop}(h:B):if false=true then A else B:=by
 rw[if_neg Am]
 exact h
theorem iL{A B:Prop}(h:A):if true=true then A else B:=by
 rw[if_pos rfl]
 exact h
theorem cW{c A B:Prop}[Decidable c](h1:c->A)(h2:¬c->B):if c then A else B:=by
 by_cases h:c
 ·rw[if_pos h]
  exact h1 h
 ·rw[if_neg h]
  exact h2 h
def Same(H H':Hp):Prop:=∀b o,H b=some o->H' b=some o
theorem Same.refl(H:Hp):Same H H:=λ_ _ h=>h
theorem Same.trans{H H1 H2:Hp}(a:Same H H1)(b:Same H1 H2):Same H H2:=λc o h=>b c o (a c o h)
theorem Same.free{H H':Hp}(e:Same H H'){l:Addr}(h:H' l=Gk):H l=Gk:=by
 cases q:H l with
 | none=>rfl
 | some o=>
  rw[e l o q] at h
  cases h
theorem Same.seq{K:AD}{H H':Hp}{a:Addr}{xs:List V}(e:Same H H')(h:bz K H a xs):bz K H' a xs:=by
 rcases h with(h | ⟨o,h⟩) | h
 ·exact .inl (.inl (e _ _ h))
 ·exact .inl (.inr ⟨o,e _ _ h⟩)
 ·exact .inr h
section
variable{κ:Type}[DecidableEq κ]
def bt(kvs:List (κ×V))(k:κ):Option V:=(kvs.find? λkv=>decide (kv.1=k)).map (·.2)
def putK(kvs:List (κ×V))(k:κ)(v:V):List (κ×V):=
 if(kvs.any λkv=>decide (kv.1=k))=true then kvs.map (λkv=>if kv.1=k then(kv.1,v) else kv) else kvs++[(k,v)]
theorem qC{k:κ}:bt ([]:List (κ×V)) k=none:=rfl
theorem bO{p:κ×V}{r:List (κ×V)}{k:κ}(e:p.1=k):bt (p::r) k=some p.2:=by simp[bt,DF,e]
theorem bE{p:κ×V}{r:List (κ×V)}{k:κ}(e:¬p.1=k):bt (p::r) k=bt r k:=by simp[bt,DF,e]
theorem j5(k:κ):∀kvs:List (κ×V),(kvs.any λkv=>decide (kv.1=k))=(bt kvs k).isSome
 | []=>rfl
 | p::r=>by
  rw[Cr]
  by_cases e:p.1=k
  ·simp only[bO e,decide_eq_true e,HP,Option.isSome_some]
  ·rw[bE e,decide_eq_false e,Bool.false_or];exact j5 k r
theorem xH(k j:κ)(y:V):∀kvs:List (κ×V),bt (kvs.map λkv=>if kv.1=k then(kv.1,y) else kv) j=(bt kvs j).map λx=>if j=k then y else x
 | []=>rfl
 | p::r=>by
  have ih:=xH k j y r
  rw[Ap]
  by_cases h:p.1=k
  ·rw[if_pos h]
   by_cases e:p.1=j
   ·rw[bO (p:=(p.1,y)) e,bO e,Ek,if_pos (e.symm.trans h)]
   ·rw[bE (p:=(p.1,y)) e,bE e,ih]
  ·rw[if_neg h]
   by_cases e:p.1=j
   ·rw[bO (p:=p) e,bO e,Ek,if_neg (λz=>h (e.trans z))]
   ·rw[bE (p:=p) e,bE e,ih]
theorem u0(k j:κ)(y:V):∀kvs:List (κ×V),bt kvs k=none->bt (kvs++[(k,y)]) j=if j=k then some y else bt kvs j
 | [],_=>by
  by_cases e:k=j
  ·rw[if_pos e.symm];exact bO (p:=(k,y)) e
  ·rw[if_neg (λz=>e z.symm)];exact bE (p:=(k,y)) e
 | p::r,hn=>by
  rw[Ff]
  have hk:¬p.1=k:=λz=>by rw[bO z] at hn;cases hn
  rw[bE hk] at hn
  have ih:=u0 k j y r hn
  by_cases e:p.1=j
  ·rw[bO e,bO e,if_neg (λz=>hk (e.trans z))]
  ·rw[bE e,bE e,ih]
theorem qD(kvs:List (κ×V))(k j:κ)(y:V):bt (putK kvs k y) j=if j=k then some y else bt kvs j:=by
 unfold putK
 by_cases a:(kvs.any λkv=>decide (kv.1=k))=true
 ·rw[if_pos a,xH]
  rw[j5] at a
  by_cases e:j=k
  ·obtain⟨x,hx⟩:=FQ.mp a
   rw[if_pos e,e,hx,Ek,if_pos rfl]
  ·rw[if_neg e]
   cases bt kvs j with
   | none=>rfl
   | some x=>rw[Ek,if_neg e]
 ·rw[if_neg a]
  refine u0 k j y kvs ?_
  rw[j5] at a
  cases q:bt kvs k with
  | none=>rfl
  | some x=>rw[q] at a;exact(a rfl).elim
theorem i7(kvs:List (κ×V))(k:κ)(v:V):(putK kvs k v).length<=kvs.length+1:=by
 unfold putK
 split
 ·rw[AB];omega
 ·rw[AG,A4,CK];omega
theorem mT{kvs:List (κ×V)}{k:κ}(v:V)(h:bt kvs k=none):putK kvs k v=kvs++[(k,v)]:=by
 unfold putK
 rw[j5,h]
 exact if_neg (by decide)
theorem gq.jf{o:Option V}{u:Option Value}(r:gq o u):o.isSome=u.isSome:=by
 cases o with
 | none=>cases u with
  | none=>rfl
  | some _=>exact(show False from r).elim
 | some _=>cases u with
  | none=>exact(show False from r).elim
  | some _=>rfl
theorem gq.getD{o:Option V}{u:Option Value}{d:V}{d':Value}(r:gq o u)(rd:RelV d d'):RelV (o.getD d) (u.getD d'):=by
 cases o with
 | none=>cases u with
  | none=>exact rd
  | some _=>exact(show False from r).elim
 | some _=>cases u with
  | none=>exact(show False from r).elim
  | some _=>exact r
theorem KV.val{kvs:List (κ×V)}{vs:List (κ×Value)}(r:KV kvs vs)(k:κ):gq (bt kvs k) (Gy vs k):=by
 unfold KV at r
 induction r with
 | nil=>exact Bf
 | @cons p q ps qs h t ih=>
  obtain⟨h1,h2⟩:=h
  by_cases e:p.1=k
  ·have e':q.1=k:=h1.symm.trans e
   have b:Gy (q::qs) k=some q.2:=by simp[Gy,DF,e']
   rw[bO e,b];exact h2
  ·have e':¬q.1=k:=λz=>e (h1.trans z)
   have b:Gy (q::qs) k=Gy qs k:=by simp[Gy,DF,e']
   rw[bE e,b];exact ih
theorem KV.any{kvs:List (κ×V)}{vs:List (κ×Value)}(r:KV kvs vs)(k:κ):(kvs.any λkv=>decide (kv.1=k))=vs.any λkv=>decide (kv.1=k):=by
 unfold KV at r
 induction r with
 | nil=>rfl
 | cons h t ih=>rw[Cr,Cr,ih,h.1]
theorem KV.repl{kvs:List (κ×V)}{vs:List (κ×Value)}(r:KV kvs vs)(k:κ){y:V}{u:Value}(ry:RelV y u):
  KV (kvs.map λkv=>if kv.1=k then(kv.1,y) else kv) (vs.map λkv=>if kv.1=k then(kv.1,u) else kv):=by
 unfold KV at r ⊢
 induction r with
 | nil=>exact .nil
 | @cons p q ps qs h t ih=>
  rw[Ap,Ap]
  refine .cons ?_ ih
  obtain⟨h1,h2⟩:=h
  by_cases e:p.1=k
  ·rw[if_pos e,if_pos (h1.symm.trans e)];exact⟨h1,ry⟩
  ·rw[if_neg e,if_neg (λz=>e (h1.trans z))];exact⟨h1,h2⟩
theorem KV.put{kvs:List (κ×V)}{vs:List (κ×Value)}(r:KV kvs vs)(k:κ){y:V}{u:Value}(ry:RelV y u):KV (putK kvs k y) (stored vs k u):=by
 unfold putK stored
 rw[r.any k]
 by_cases e:(vs.any λkv=>decide (kv.1=k))=true
 ·rw[if_pos e,if_pos e];exact r.repl k ry
 ·rw[if_neg e,if_neg e];exact Paired.snoc r ⟨rfl,ry⟩
theorem KV.length{kvs:List (κ×V)}{vs:List (κ×Value)}(r:KV kvs vs):kvs.length=vs.length:=AX r
end
theorem jJ{P:Ak}{w:World}{k:Key}{u:Value}(r:RelV (kV k) u):(aY P w).is k u=true:=by
 cases k with
 | inl i=>obtain⟨t,e⟩:=(show ∃t,u=Gv i t from r);subst e;exact zU P w i t
 | inr x=>obtain⟨t,e⟩:=(show ∃t,u=EO x t from r);subst e;exact zV P w x t
theorem u3{P:Ak}{w:World}:∀{ks:List Key} {us:List Value},Vals (ks.map kV) us->ItemsAre (aY P w) ks us
 | [],_,r=>by rw[ED] at r;cases r;exact .nil
 | k::ks,_,r=>by
  rw[Ap] at r
  cases r with
  | cons h t=>exact .cons (jJ h) (u3 t)
abbrev KT (H:Hp):List (List Key×V)->List (List Key×Addr×Value)->Prop:=Bv λp q=>p.1=q.1/\H q.2.1=some (.tup (p.1.map kV))/\RelV p.2 q.2.2
theorem KT.val{H:Hp}{kvs:List (List Key×V)}{xs:List (List Key×Addr×Value)}(r:KT H kvs xs)(k:List Key):gq (bt kvs k) ((atKey xs k).map (·.2)):=by
 induction r with
 | nil=>exact Bf
 | @cons p q ps qs h t ih=>
  obtain⟨h1,_,h2⟩:=h
  by_cases e:p.1=k
  ·have e':q.1=k:=h1.symm.trans e
   have b:atKey (q::qs) k=some q.2:=by simp[atKey,DF,e']
   rw[bO e,b];exact h2
  ·have e':¬q.1=k:=λz=>e (h1.trans z)
   have b:atKey (q::qs) k=atKey qs k:=by simp[atKey,DF,e']
   rw[bE e,b];exact ih
theorem KT.repl{H:Hp}{kvs:List (List Key×V)}{xs:List (List Key×Addr×Value)}(r:KT H kvs xs)(k:List Key){y:V}{u:Value}(ry:RelV y u):
  KT H (kvs.map λkv=>if kv.1=k then(kv.1,y) else kv) (xs.map (putAt k u)):=by
 induction r with
 | nil=>exact .nil
 | @cons p q ps qs h t ih=>
  rw[Ap,Ap]
  refine .cons ?_ ih
  obtain⟨h1,h2,h3⟩:=h
  unfold putAt
  by_cases e:p.1=k
  ·rw[if_pos e,if_pos (h1.symm.trans e)];exact⟨h1,h2,ry⟩
  ·rw[if_neg e,if_neg (λz=>e (h1.trans z))];exact⟨h1,h2,h3⟩
theorem KT.put{H:Hp}{kvs:List (List Key×V)}{xs:List (List Key×Addr×Value)}(r:KT H kvs xs)(k:List Key){b:Addr}{y:V}{u:Value}(hb:H b=some (.tup (k.map kV)))(ry:RelV y u):
  KT H (putK kvs k y) (storedH xs k b u):=by
 have e:(kvs.any λkv=>decide (kv.1=k))=(atKey xs k).isSome:=by
  rw[j5,(r.val k).jf,FN]
 unfold putK storedH
 rw[e]
 by_cases q:(atKey xs k).isSome=true
 ·rw[if_pos q,if_pos q];exact r.repl k ry
 ·rw[if_neg q,if_neg q];exact Paired.snoc r ⟨rfl,hb,ry⟩
theorem KT.keeps{H H':Hp}{kvs:List (List Key×V)}{xs:List (List Key×Addr×Value)}(r:KT H kvs xs)(ht:∀b ys,H b=some (.tup ys)->H' b=some (.tup ys)):KT H' kvs xs:=
 Paired.mP r λ_ _ z=>⟨z.1,ht _ _ z.2.1,z.2.2⟩
section
variable{P:Ak}{w:World}{H:Hp}{h:Heap}{a:Addr}
theorem Pq{u:HO}(ok:cV P w H h)(e:Rd H a u):bM P w H h a u:=e.ok ok
theorem mU{kvs:List (Key×V)}(ok:cV P w H h)(e:Rd H a (.dK kvs)):kvs.length<=sizeLine/\(a == Bq)=false/\∃vs,KV kvs vs/\h.DictOf (aY P w) a vs:=
 show bM P w H h a (.dK kvs) from Pq ok e
theorem xm{kvs:List (Key×V)}(ok:cV P w H h)(e:H a=some (.dK kvs)):kvs.length<=sizeLine/\(a == Bq)=false/\∃vs,KV kvs vs/\h.DictOf (aY P w) a vs:=mU ok (.inl e)
theorem j6{ks:List Key}(ok:cV P w H h)(e:H a=some (.tup (ks.map kV))):(ER (aY P w)).is h ks a:=by
 obtain⟨_,its,r,o,h1,h2,n,h3⟩:=(show bM P w H h a (.tup (ks.map kV)) from ok a _ e)
 exact⟨o,its.toArray,n,h1,h2,h3,by simpa using u3 r⟩
theorem mV{kvs:List (List Key×V)}(ok:cV P w H h)(e:Rd H a (.dT kvs)):kvs.length<=sizeLine/\(a == Bq)=false/\
  ∃xs,KT H kvs xs/\h.DictOfH (ER (aY P w)) a xs:=by
 obtain⟨z,y,xs,r,o,es,ep,h1,h2,h3,h4,h5⟩:=(show bM P w H h a (.dT kvs) from Pq ok e)
 refine⟨z,y,xs,r,o,es,ep,h1,h2,h3,h4,λx hx=>?_,h5⟩
 have all:∀{l:List (List Key×V)} {m:List (List Key×Addr×Value)},KT H l m->∀x∈m,(ER (aY P w)).is h x.1 x.2.1:=by
  intro l m q
  induction q with
  | nil=>intro x hx;exact nomatch hx
  | @cons p q ps qs hq t ih=>
   intro x hx
   rcases Ac.mp hx with e | hx
   ·subst e
    exact j6 ok (by rw[<-hq.1];exact hq.2.1)
   ·exact ih x hx
 exact all r x hx
theorem Pr{kvs:List (List Key×V)}(ok:cV P w H h)(e:H a=some (.dT kvs)):kvs.length<=sizeLine/\(a == Bq)=false/\
  ∃xs,KT H kvs xs/\h.DictOfH (ER (aY P w)) a xs:=mV ok (.inl e)
end
def iM(H:Hp)(a:Addr)(y:V)(r:Option V):Prop:=
 (∃kvs k,Rd H a (.dK kvs)/\y=kV k/\r=bt kvs k)∨∃kvs k b,Rd H a (.dT kvs)/\y=.ref b/\H b=some (.tup (k.map kV))/\r=bt kvs k
def iq(H:Hp)(a:Addr)(y v:V)(H':Hp):Prop:=
 (∃kvs k,H a=some (.dK kvs)/\y=kV k/\kvs.length<sizeLine/\H'=upd H a (.dK (putK kvs k v)))∨
 ∃kvs k b,H a=some (.dT kvs)/\y=.ref b/\H b=some (.tup (k.map kV))/\kvs.length<sizeLine/\H'=upd H a (.dT (putK kvs k v))
theorem iq.k{H:Hp}{a:Addr}{kvs:List (Key×V)}{k:Key}{v:V}(e:H a=some (.dK kvs))(hl:kvs.length<sizeLine):iq H a (kV k) v (upd H a (.dK (putK kvs k v))):=.inl ⟨kvs,k,e,rfl,hl,rfl⟩
theorem iq.t{H:Hp}{a b:Addr}{kvs:List (List Key×V)}{k:List Key}{v:V}(e:H a=some (.dT kvs))(eb:H b=some (.tup (k.map kV)))(hl:kvs.length<sizeLine):
  iq H a (.ref b) v (upd H a (.dT (putK kvs k v))):=.inr ⟨kvs,k,b,e,rfl,eb,hl,rfl⟩
section
variable{X:Cx}{pins:List (Addr×Obj)}{σ:St}{H:Hp}{s:AI}{a:Addr}{y v:V}{u r:Value}{o:Option V}{A:A9}{E:Value->AI->Prop}
theorem Inv.big(I:Inv X pins σ H s):Bq<s.heap.objs.size:=by
 have h:AU<s.heap.objs.size:=(I.mod.glob.keeps I.bk).lt
 exact CG (by decide) h
theorem u4{Q:Value->AI->Prop}(hu:A.units+1<cLine)(I:Inv X pins σ H s)(g:iM H a y (some v))(ry:RelV y u)(h:∀w' s',Inv X pins σ H s'->RelV v w'->Q w' s'):
  wpAny (model X.prog X.w) A (EZ (.ref a) u) Q E s:=by
 rcases g with⟨kvs,k,e,ey,l⟩ | ⟨kvs,k,b,e,ey,eb,l⟩
 ·subst ey
  obtain⟨z,hd,vs,rel,dd⟩:=mU I.hok e
  obtain⟨w',hw,il⟩:=gq.some_of (v:=v) (o:=Gy vs k) (by rw[l];exact rel.val k)
  exact wpAny_getItem_of (jJ ry) dd.mapOf hw (h w' _ (I.tok _) il)
 ·subst ey
  cases(show u=BI b from ry)
  obtain⟨z,hd,xs,rel,dd⟩:=mV I.hok e
  obtain⟨w',hw,il⟩:=gq.some_of (v:=v) (o:=(atKey xs k).map (·.2)) (by rw[l];exact rel.val k)
  obtain⟨p,hp,hp2⟩:=Bh.mp hw
  refine wpAny_getItem_heap (C' hu) (j6 I.hok eb) dd hp ?_
  rw[hp2]
  exact h w' _ (I.tok _) il
theorem Zy{Q:Value->AI->Prop}(hu:A.units+1<cLine)(I:Inv X pins σ H s)(g:iM H a y o)(ry:RelV y u)(h:∀s',Inv X pins σ H s'->Q (.bool o.isSome) s'):
  wpAny (model X.prog X.w) A (Bt .In u (.ref a)) Q E s:=by
 rcases g with⟨kvs,k,e,ey,l⟩ | ⟨kvs,k,b,e,ey,eb,l⟩
 ·subst ey
  obtain⟨z,hd,vs,rel,dd⟩:=mU I.hok e
  refine wpAny_in_of (jJ ry) hd dd.mapOf ?_
  rw[<-(rel.val k).jf,<-l]
  exact h _ (I.tok _)
 ·subst ey
  cases(show u=BI b from ry)
  obtain⟨z,hd,xs,rel,dd⟩:=mV I.hok e
  refine wpAny_in_heap (C' hu) (j6 I.hok eb) hd dd ?_
  have q:=(rel.val k).jf
  rw[FN] at q
  rw[<-q,<-l]
  exact h _ (I.tok _)
theorem Q6{Q:Value->AI->Prop}(hu:A.units+1<cLine)(I:Inv X pins σ H s)(g:iM H a y o)(ry:RelV y u)(h:∀s',Inv X pins σ H s'->Q (.bool (!o.isSome)) s'):
  wpAny (model X.prog X.w) A (Bt .NotIn u (.ref a)) Q E s:=by
 rcases g with⟨kvs,k,e,ey,l⟩ | ⟨kvs,k,b,e,ey,eb,l⟩
 ·subst ey
  obtain⟨z,hd,vs,rel,dd⟩:=mU I.hok e
  refine wpAny_notIn_of (jJ ry) hd dd.mapOf ?_
  rw[<-(rel.val k).jf,<-l]
  exact h _ (I.tok _)
 ·subst ey
  cases(show u=BI b from ry)
  obtain⟨z,hd,xs,rel,dd⟩:=mV I.hok e
  refine wpAny_notIn_heap (C' hu) (j6 I.hok eb) hd dd ?_
  have q:=(rel.val k).jf
  rw[FN] at q
  rw[<-q,<-l]
  exact h _ (I.tok _)
theorem pT{h':Heap}{t':Nat}{ob:HO}(I:Inv X pins σ H s)(mu:KH (H a))(hs:B6 a s.heap h')(he:∃q,h'.get? a=some q)(new:bM X.prog X.w (upd H a ob) h' a ob):
  Inv X pins σ (upd H a ob) {s with heap:=h',toks:=t'}:=
 I.write (x:=a) (e:=a) mu (.inl rfl) (λb q hb z=>(hs.2 b hb).trans z) he new
theorem K5{P:Ak}{w:World}{H':Hp}{h':Heap}{kvs:List (Key×V)}{vs:List (Key×Value)}(z:kvs.length<=sizeLine)(hd:(a == Bq)=false)(rel:KV kvs vs)(dd:h'.DictOf (aY P w) a vs):
  bM P w H' h' a (.dK kvs):=⟨z,hd,vs,rel,dd⟩
theorem u5{H':Hp}{Q:Unit->AI->Prop}(hu:A.units+1<cLine)(I:Inv X pins σ H s)(g:iq H a y v H')(ry:RelV y u)(rv:RelV v r)(h:∀s',Inv X pins σ H' s'->Q () s'):
  wpAny (model X.prog X.w) A (setItem (.ref a) u r) Q E s:=by
 rcases g with⟨kvs,k,e,ey,l,eH⟩ | ⟨kvs,k,b,e,ey,eb,l,eH⟩
 ·subst ey eH
  obtain⟨z,hd,vs,rel,dd⟩:=xm I.hok e
  have hz:vs.length<=sizeLine:=by rw[<-rel.length];exact z
  have hl:(putK kvs k v).length<=sizeLine:=by have:=i7 kvs k v;omega
  refine wpAny_setItem_pairs (hsz:=hz) (jJ ry) dd λh' rO hs=>h _ ?_
  have he:∃q,h'.get? a=some q:=let ⟨q,_,_,hq,_⟩:=rO;⟨q,hq⟩
  exact pT I (by rw[e];exact Bf) hs he (K5 hl hd (rel.put k rv) rO)
 ·subst ey eH
  cases(show u=BI b from ry)
  obtain⟨z,hd,xs,rel,dd⟩:=Pr I.hok e
  have hz:xs.length<=sizeLine:=by rw[<-AX rel];exact z
  have hl:(putK kvs k v).length<=sizeLine:=by have:=i7 kvs k v;omega
  refine wpAny_setItem_heap (hsz:=hz) (C' hu) (j6 I.hok eb) dd λh' rO hs=>h _ ?_
  obtain⟨q,es,ep,hq,h2,h3,h4,_,h5⟩:=rO
  refine pT I (by rw[e];exact Bf) hs ⟨q,hq⟩ ⟨hl,hd,_,(rel.put k eb rv).keeps λc ys ec=>?_,q,es,ep,hq,h2,h3,h4,h5⟩
  rw[ao (fL ec e (λz=>nomatch z))]
  exact ec
end
def NA(i:Expr):Prop:=∀ov iv,Gh i false ov iv=operate [ov,iv] (EZ ov iv)
theorem Iv{prog:Ak}{w:World}{A:A9}{E:Value->AI->Prop}{s:AI}{env:Env}{value slice:Expr}{pos:Pos}{T id:String}{Q:Value->AI->Prop}
  (hl:E4 (.type T) "__getitem__"=pure (some (.builtin id))) (hs:NA slice)
  (h:wpAny (model prog w) A (eval value env) (λo s₁=>wpAny (model prog w) A (eval slice env) (λi s₂=>s₂.TypeIs o T/\wpAny (model prog w) A (EZ o i) Q E s₂) E s₁) E s):
  wpAny (model prog w) A (eval (.Subscript value slice pos) env) Q E s:=by
 refine Fu (Bi h (λo s₁ h₁=>Bi h₁ (λi s₂ h₂=>?_) λ_ _ x=>x) λ_ _ x=>x)
 obtain⟨hT,h₂⟩:=h₂
 unfold Ea
 refine AA ?_
 rw[getitemInPython_of_ne hT.not_modules]
 refine AA (El hT hl ?_)
 have fin:wpAny (model prog w) A (Gh slice false o i) (λr s₃=>wpAny (model prog w) A (letTemporaryGo value o r >>= λ_=>pure r) Q E s₃) E s₂:=by
  rw[hs o i]
  exact wpAny_operating (Bi h₂ (λr s₃ h₃=>AA (wpAny_letTemporaryGo (AH h₃))) λ_ _ x=>x)
 first
  | exact AH (AA fin)
  | exact AA (AH (AA fin))
  | exact AA fin
theorem qp{X:Cx}{pins:List (Addr×Obj)}{σ:St}{H:Hp}{s:AI}{a:Addr}{y:V}{o:Option V}(I:Inv X pins σ H s)(g:iM H a y o):s.TypeIs (.ref a) "dict":=by
 rcases g with⟨kvs,k,e,_,_⟩ | ⟨kvs,k,b,e,_,_,_⟩
 ·obtain⟨_,_,vs,_,dd⟩:=mU I.hok e
  exact dd.typeIs
 ·obtain⟨_,_,xs,_,dd⟩:=mV I.hok e
  exact dd.typeIs
def WW(td ty:TE):TE:=λσ H Q=>td σ H λx H1=>ty σ H1 λy H2=>∃a v,x=.ref a/\iM H2 a y (some v)/\Q v H2
def WX(td ty tv:TE):TS:=λD σ H=>tv σ H λv H1=>td σ H1 λx H2=>ty σ H2 λy H3=>∃a H4,x=.ref a/\iq H3 a y v H4/\D.nx σ H4
section
variable{X:Cx}{o i e value:Expr}{pos pos' tpos:Pos}{td ty tv:TE}
theorem dr(hu:X.A.units+1<cLine)(ho:PE X o td)(hi:PE X i ty)(hs:NA i):PE X (.Subscript o i pos) (WW td ty):=by
 intro pins s σ H Q I h
 refine Iv FG.lookup hs (aM (ho pins s σ H _ I h) λu s1 ⟨x,H1,I1,rx,q1⟩=>aM (hi pins s1 σ H1 _ I1 q1) λiv s2 ⟨y,H2,I2,ry,a,v,ex,g,q2⟩=>?_)
 subst ex
 obtain rfl:u=BI a:=rx
 exact⟨qp I2 g,u4 hu I2 g ry λw' s3 I3 il=>⟨v,H2,I3,il,q2⟩⟩
theorem pU(hu:X.A.units+1<cLine)(ho:PE X o td)(hi:PE X i ty)(hv:PE X value tv)(hs:Gw value (some (.Subscript o i pos')) pos.line X.env=pure false):
  PS X (.Assign [.Subscript o i pos'] value pos) (WX td ty tv):=by
 intro pins s σ H D I h
 refine wpAny_Assign_Subscript (aM (hv pins s σ H _ I h) λr s1 ⟨v,H1,I1,rv,q1⟩=>aM (ho pins s1 σ H1 _ I1 q1) λu s2 ⟨x,H2,I2,rx,q2⟩=>aM (hi pins s2 σ H2 _ I2 q2) λiv s3 ⟨y,H3,I3,ry,a,H4,ex,g,q3⟩=>?_) hs
 subst ex
 obtain rfl:u=BI a:=rx
 exact u5 hu I3 g ry rv λs4 I4=>⟨σ,H4,I4,q3⟩
end
theorem NB{P:Ak}{w:World}{H:Hp}(h:Heap)(hb:Bq<h.objs.size):bM P w H (h.push {cls:=.type "dict",data:=.dict #[]}) h.objs.size (.dK []):=
 ⟨BG _,beq_eq_false_iff_ne.mpr (DM (Ae hb)),[],.nil,GF h⟩
theorem xI{P:Ak}{w:World}{H:Hp}(h:Heap)(hb:Bq<h.objs.size):bM P w H (h.push {cls:=.type "dict",data:=.dict #[]}) h.objs.size (.dT []):=
 ⟨BG _,beq_eq_false_iff_ne.mpr (DM (Ae hb)),[],.nil,_, #[],0,AO _ rfl,⟨rfl,rfl,rfl⟩,rfl,rfl,Gm⟩
def SQ:TE:=λ_ H Q=>∀p,H p=none->Q (.ref p) (upd H p (.dT []))
section
variable{X:Cx}{pos:Pos}
theorem NC:PE X (.Dict [] [] pos) SQ:=λpins s σ H Q I h=>
 wpAny_Dict_empty ⟨.ref s.heap.objs.size,_,I.laid (a:=s.heap.objs.size) (o:=.dT []) (t':=s.toks) (λ_ _ q=>AE _ q) (AM _) (xI s.heap I.big),rfl,h _ (I.hok.fresh (AM _))⟩
end
def xJ:List (TE×TE)->St->Hp->(List (V×V)->Hp->Prop)->Prop
 | [],_,H,Q=>Q [] H
 | (tk,tv)::r,σ,H,Q=>tk σ H λx H1=>tv σ H1 λy H2=>xJ r σ H2 λps H3=>Q ((x,y)::ps) H3
abbrev VV:List (V×V)->List (Value×Value)->Prop:=Bv λp q=>RelV p.1 q.1/\RelV p.2 q.2
def K6(X:Cx)(pos:Pos)(keys:List (Option Expr))(values:List Expr)(rP:List (TE×TE)):Prop:=
 ∀(pins:List (Addr×Obj)) (s:AI) (σ:St) (H:Hp) (Q:List (V×V)->Hp->Prop),Inv X pins σ H s->xJ rP σ H Q->
  wpAny (model X.prog X.w) X.A (evalPairs (pairTrees keys values X.env pos)) (λvs s'=>∃ps H',Inv X pins σ H' s'/\VV ps vs/\Q ps H') X.xe s
theorem tS{X:Cx}{pos:Pos}:K6 X pos [] [] []:=λpins s σ H Q I h=>pairTrees_nil_walk ⟨[],H,I,.nil,h⟩
theorem j7{X:Cx}{pos:Pos}{k v:Expr}{ks:List (Option Expr)}{vs:List Expr}{tk tv:TE}{rP:List (TE×TE)}(hk:PE X k tk)(hv:PE X v tv)(hr:K6 X pos ks vs rP):
  K6 X pos (some k::ks) (v::vs) ((tk,tv)::rP):=λpins s σ H Q I h=>
 pairTrees_cons_walk (aM (hk pins s σ H _ I h) λu s1 ⟨x,H1,I1,rx,q1⟩=>aM (hv pins s1 σ H1 _ I1 q1) λw2 s2 ⟨y,H2,I2,ry,q2⟩=>
  aM (hr pins s2 σ H2 _ I2 q2) λws s3 ⟨ps,H3,I3,rel,q3⟩=>⟨(x,y)::ps,H3,I3,.cons ⟨rx,ry⟩ rel,q3⟩)
def bP(kvs more:List (Key×V)):List (Key×V):=more.foldl (λacc kv=>putK acc kv.1 kv.2) kvs
theorem KV.merge:∀{more:List (Key×V)} {rs:List (Key×Value)} {kvs:List (Key×V)} {vs:List (Key×Value)},KV more rs->KV kvs vs->KV (bP kvs more) (Fv vs rs):=by
 intro more rs kvs vs r
 unfold KV at r
 induction r generalizing kvs vs with
 | nil=>intro q;exact q
 | @cons p q ps qs h t ih=>
  intro r0
  have e:KV (putK kvs p.1 p.2) (stored vs q.1 q.2):=by
   have:=r0.put p.1 h.2
   rw[<-h.1];exact this
  exact ih e
theorem fD:∀(more kvs:List (Key×V)),(bP kvs more).length<=kvs.length+more.length
 | [],kvs=>by show kvs.length<=kvs.length+0;omega
 | p::r,kvs=>by
  have h1:=fD r (putK kvs p.1 p.2)
  have h2:=i7 kvs p.1 p.2
  show(bP (putK kvs p.1 p.2) r).length<=_
  rw[A4];omega
theorem rQ{P:Ak}{w:World}:∀{kvs:List (Key×V)} {ws:List (Value×Value)},VV (kvs.map λkv=>(kV kv.1,kv.2)) ws->∃rs,Carries (aY P w) ws rs/\KV kvs rs
 | [],_,r=>by rw[ED] at r;cases r;exact⟨[],Bf,.nil⟩
 | p::kvs,_,r=>by
  rw[Ap] at r
  cases r with
  | @cons a b as bs h t=>
   obtain⟨rs,c,q⟩:=rQ (P:=P) (w:=w) t
   obtain⟨b1,b2⟩:=b
   exact⟨(p.1,b2)::rs,⟨jJ h.1,rfl,c⟩,.cons ⟨rfl,h.2⟩ q⟩
def WY(rP:List (TE×TE)):TE:=λσ H Q=>∀p,H p=none->xJ rP σ (upd H p (.dK [])) λps H2=>H2 p=some (.dK [])/\∃kvs:List (Key×V),ps=kvs.map (λkv=>(kV kv.1,kv.2))/\kvs.length<=15/\Q (.ref p) (upd H2 p (.dK (bP [] kvs)))
theorem Iw{X:Cx}{pos:Pos}{keys:List (Option Expr)}{values:List Expr}{rP:List (TE×TE)}(h:K6 X pos keys values rP)(hall:keys.all (·.isSome)=true)(hl:keys.length=values.length)(h0:keys≠[])
  (h15:keys.length<=15):PE X (.Dict keys values pos) (WY rP):=by
 intro pins s σ H Q I q
 have hn:=I.hok.fresh (AM s.heap.objs.size)
 have I1:=I.laid (a:=s.heap.objs.size) (o:=.dK []) (h':=s.heap.push {cls:=.type "dict",data:=.dict #[]}) (t':=s.toks) (λ_ _ q=>AE _ q) (AM _) (NB s.heap I.big)
 refine wpAny_Dict_walk (knd:=aY X.prog X.w) hall hl h0 h15 (aM (h pins _ σ _ _ I1 (q _ hn)) λws s2 ⟨ps,H2,I2,rel,e,kvs,ep,lk,q2⟩=>?_)
 subst ep
 obtain⟨rs,c,rk⟩:=rQ (P:=X.prog) (w:=X.w) rel
 obtain⟨z,hd,vs0,r0,dd⟩:=xm I2.hok e
 cases r0
 refine⟨rs,c,dd,λh' rO hs=>⟨.ref s.heap.objs.size,_,?_,rfl,q2⟩⟩
 have hz:(bP [] kvs).length<=sizeLine:=by
  have h1:=fD kvs []
  rw[CK] at h1
  rw[Ee];omega
 have he:∃q,h'.get? s.heap.objs.size=some q:=let ⟨q,_,_,hq,_⟩:=rO;⟨q,hq⟩
 exact pT I2 (by rw[e];exact Bf) hs he (K5 hz hd (rk.merge .nil) rO)
structure M2 (X:Cx)(o:Expr)(m:Str)(apos:Pos)(e f:Expr)(cpos:Pos):Prop where
 base:FV o m X.env (eval o X.env)=eval o X.env
 few:((D_ cpos (BC [e,f] X.env)).all (λx=> !x.1)&&(backToKw cpos (keywordEach [] X.env)).all (λx=>x.1.isSome)
  &&decide (([e,f]:List Expr).length+([]:List Keyword).length+(if([]:List Keyword).isEmpty then 0 else 1)<30))=true
 line:(apos.endLine == cpos.line)=true
 trees:D_ cpos (BC [e,f] X.env)=[(false,eval e X.env),(false,eval f X.env)]
def XS(H:Hp)(a:Addr):Prop:=(∃kvs,Rd H a (.dK kvs))∨∃kvs,Rd H a (.dT kvs)
theorem SR{X:Cx}{pins:List (Addr×Obj)}{σ:St}{H:Hp}{s:AI}{a:Addr}(I:Inv X pins σ H s)(d:XS H a):
  s.TypeIs (.ref a) "dict"/\(∀b,BI a=.ref b->∃ob,s.heap.get? b=some ob/\ob.dict=none)/\(a == Bq)=false:=by
 rcases d with⟨kvs,e⟩ | ⟨kvs,e⟩
 ·obtain⟨_,hd,vs,_,dd⟩:=mU I.hok e
  refine⟨dd.typeIs,λb q=>?_,hd⟩
  cases q
  obtain⟨ob,_,_,h1,h2,_⟩:=dd
  exact⟨ob,h1,h2.2.1⟩
 ·obtain⟨_,hd,xs,_,dd⟩:=mV I.hok e
  refine⟨dd.typeIs,λb q=>?_,hd⟩
  cases q
  obtain⟨ob,_,_,h1,h2,_⟩:=dd
  exact⟨ob,h1,h2.2.1⟩
section
variable{X:Cx}{pins:List (Addr×Obj)}{σ:St}{H:Hp}{s:AI}{a:Addr}{y d:V}{u r:Value}{o:Option V}{A:A9}{E:Value->AI->Prop}
theorem SU{Q:Value->AI->Prop}(hu:A.units+1<cLine)(I:Inv X pins σ H s)(g:iM H a y o)(ry:RelV y u)(rd:RelV d r)(h:∀w' s',Inv X pins σ H s'->RelV (o.getD d) w'->Q w' s'):
  wpAny (model X.prog X.w) A (call (.builtin "dict.get") [.ref a,u,r]) Q E s:=by
 rcases g with⟨kvs,k,e,ey,l⟩ | ⟨kvs,k,b,e,ey,eb,l⟩
 ·subst ey
  obtain⟨z,hd,vs,rel,dd⟩:=mU I.hok e
  refine call_meetsIn Cc dd.typeIs EF (D8 _ _ _) (meets_dict_get_default (aY X.prog X.w) a (jJ ry) hd r) ⟨_,dd.mapOf,h _ _ (I.tok _) ?_⟩
  rw[l]
  exact(rel.val k).getD rd
 ·subst ey
  cases(show u=BI b from ry)
  obtain⟨z,hd,xs,rel,dd⟩:=mV I.hok e
  refine call_meetsIn Cc dd.typeIs EF (D8 _ _ _) (meetsH_dict_get_default (ER (aY X.prog X.w)) a b hd r) ⟨C' hu,k,xs,j6 I.hok eb,dd,h _ _ (I.tok _) ?_⟩
  rw[l]
  exact(rel.val k).getD rd
end
def SV(td ty tx:TE):TE:=λσ H Q=>td σ H λx H1=>∃a,x=.ref a/\XS H1 a/\ty σ H1 λy H2=>tx σ H2 λz H3=>∃o,iM H3 a y o/\Q (o.getD z) H3
section
variable{X:Cx}{o e f:Expr}{apos cpos:Pos}{td ty tx:TE}
theorem ND(hu:X.A.units+1<cLine)(ho:PE X o td)(he:PE X e ty)(hf:PE X f tx)(m:M2 X o "get" apos e f cpos):PE X (.Call (.Attribute o "get" apos) [e,f] [] cpos) (SV td ty tx):=by
 intro pins s σ H Q I h
 refine wpAny_Call_method m.base m.few m.line Fg Cc GK (aM (ho pins s σ H _ I h) λu s1 ⟨x,H1,I1,rx,a,ex,d,q1⟩=>?_)
 subst ex
 obtain rfl:u=BI a:=rx
 obtain⟨t1,t2,_⟩:=SR I1 d
 refine⟨t1,t2,?_⟩
 rw[m.trees]
 refine C9 rfl (DT (CV (aM (he pins s1 σ H1 _ I1 q1) λiv s2 ⟨y,H2,I2,ry,q2⟩=>
  CV (aM (hf pins s2 σ H2 _ I2 q2) λfv s3 ⟨z,H3,I3,rz,ov,g,q3⟩=>D' ?_))))
 exact SU hu I3 g ry rz λw' s4 I4 il=>⟨_,H3,I4,il,q3⟩
end
section
variable{X:Cx}{pins:List (Addr×Obj)}{σ:List (Option V)}{H H':Hp}{s:AI}{h':Heap}
theorem Inv.mW{t':Nat}{ch:List Addr}{p:Addr}{o:HO}(I:Inv X pins σ H s)(hf:∀b∈ch,fK X pins H b)
  (k:∀b u,b ∉ ch->s.heap.get? b=some u->h'.get? b=some u) (hp:s.heap.objs.size<=p) (new:bM X.prog X.w (upd H p o) h' p o):
  Inv X pins σ (upd H p o) {s with heap:=h',toks:=t'}:=by
 have hn:H p=none:=I.hok.fresh hp
 have oG:∀b u,H b=some u->b ∉ ch:=λb u e z=>by have q:=(hf b z).1;rw[e] at q;cases q
 have old:∀b u,s.heap.get? b=some u->b≠p:=λb u e=>Ae (AY (AN e) hp)
 have rR:∀b u,H b=some u->upd H p o b=some u:=λb u e=>by rw[ao (ak e hn)];exact e
 refine I.step (g':=s.gens) (d':=s.drawn) (ch:=ch) (λb hb=>?_) (λb o _ _ hc e _=>k b o hc e) (λb o _ _ hc e _=>⟨o.slots,k b o hc e⟩) (λb o _ e n=>by rw[ao (old b o e)];exact n)
  (λb o hc e=>⟨o,k b o hc e⟩) (λb xs e=>rR b _ e) (λb _ _ e=>rR b _ e) (λb ps e=>⟨#[],by rw[rR b _ e];simp⟩) (λm hm=>?_) (λb u e=>?_) I.bare
 ·obtain⟨f0,f1,f2,f3,f4,f5⟩:=hf b hb
  exact⟨f3,f1,f4,f5⟩
 ·obtain⟨ob,es,ep,ho,r⟩:=hm
  exact⟨ob,es,ep,k _ ob (λz=>(hf _ z).2.1 rfl) ho,r⟩
 ·by_cases hb:b=p
  ·subst hb;rw[af] at e;cases e;exact new
  ·rw[ao hb] at e
   refine(I.hok b u e).stay (λc v hc q=>k c v ?_ q) (λc q=>rR c _ q) λc xs q=>rR c _ q
   rcases hc with z | z
   ·rw[z];exact oG b u e
   ·exact oG c _ z
end
def K7(K:AD)(a:Addr):It:=
 ⟨λi H=>∃xs x,bz K H a xs/\xs[i]? =some x,
  λi H x H'=>∃y p,(∀xs,bz K H a xs->xs[i]? =some y)/\H p=none/\x=.ref p/\H'=upd H p (.tup [.int i,y]),
  λi H=>∃xs,bz K H a xs/\xs.length<=i⟩
theorem K8{P:Ak}{w:World}{K:AD}{elts:List Expr}{x1}{tpos:Pos}(a e it:Addr)(hne:e≠it):
  Turn P w K (.Tuple elts x1 tpos) (K7 K a) [e,it] e (λi h=>(∃old,IsEnum h e it i old)/\h.IsListIter it a i) where
 mem:=by simp
 obj:=λi h st b hb=>by
  obtain⟨⟨old,st1⟩,st2⟩:=st
  rcases Ac.mp hb with z | z
  ·subst z;exact⟨_,st1,λv z=>by cases z⟩
  ·have z':b=it:=by simpa using z
   subst z'
   obtain⟨o,e,c,d⟩:=st2
   exact⟨o,e,λv z=>by rw[d] at z;cases z⟩
 keep:=λi h h' st k=>by
  obtain⟨⟨old,st1⟩,st2⟩:=st
  exact⟨⟨old,k e (by simp) _ st1⟩,st2.at λo q=>k it (by simp) o q⟩
 item:=by
  intro X hP hw hK hc i pins s σ H E I hf st hg
  subst hP hw hK
  obtain⟨⟨old,st1⟩,st2⟩:=st
  obtain⟨xs,x,hq,hx⟩:=hg
  obtain⟨its,rv,p,hz⟩:=I.list hq
  obtain⟨u,hu,ru⟩:=rv.get hx
  refine wpAny_pyNext_enum_item st1 st2 p.isList (x:=u) (by simpa using hu) hne λh1 eo it1 ht hsz kk=>?_
  have nn:H s.heap.objs.size=none:=I.hok.fresh (AM _)
  have I1:Inv X pins σ (upd H s.heap.objs.size (.tup [.int i,x])) {s with heap:=h1,toks:=s.toks+1}:=
   I.mW (ch:=[e,it]) hf (λb o hb q=>kk b o (λz=>hb (by simp[z])) (λz=>hb (by simp[z])) q) (AM _)
    ⟨⟨by show 2<=sizeLine;decide,_,ht,rfl⟩,[.int i s.toks,u],.cons ⟨_,rfl⟩ (.cons ru .nil),⟨_,ht,rfl,_,rfl⟩⟩
  have le:e<s.heap.objs.size:=AN st1
  have li:it<s.heap.objs.size:=by obtain⟨o,q,_⟩:=id st2;exact AN q
  refine⟨_,rfl,wpAny_letOwnedTupleGo_enum eo λh2 e2 sb=>?_⟩
  obtain⟨f0,f1,f2,f3,f4,f5⟩:=hf e (by simp)
  have I2:=I1.turned (h':=h2) (t':=s.toks+1) (it:=e) (λb o hb q=>(sb.2 b hb).trans q) (by rw[ao (Ae le)];exact f0) f1 f3 f4 f5
  refine⟨.ref s.heap.objs.size,_,I2,rfl,⟨x,s.heap.objs.size,λys hy=>by rw[I.iI hy hq];exact hx,nn,rfl,rfl⟩,⟨⟨u,by simpa using e2⟩,it1.at λo q=>(sb.2 it (DM hne)).trans q⟩,λb hb=>?_⟩
  rcases Ac.mp hb with z | z
  ·subst z;rw[ao (Ae le)];exact f0
  ·have z':b=it:=by simpa using z
   subst z';rw[ao (Ae li)];exact(hf b (by simp)).1
 done:=by
  intro X hP hw hK hc i pins s σ H E I hf st hg
  subst hP hw hK
  obtain⟨⟨old,st1⟩,st2⟩:=st
  obtain⟨xs,hq,hx⟩:=hg
  obtain⟨its,rv,p,hz⟩:=I.list hq
  obtain⟨f0,f1,f2,f3,f4,f5⟩:=hf it (by simp)
  have hl:=rv.length
  exact wpAny_pyNext_enum_end (I.ok.hd hc) st1 st2 p.isList (by simp;omega) λh' eb=>⟨rfl,I.turned (t':=s.toks) (λb o hb e=>eb b o hb e) f0 f1 f3 f4 f5⟩
 self:=λ_ _ _ _ _ st h=>by
  obtain⟨⟨old,st1⟩,st2⟩:=st
  exact wpAny_pyIter_enum st1 h
def WZ(K:AD)(ta:TA):TI:=λσ H R=>ta σ H λvs H1=>∃a,vs=[.ref a]/\(∃xs,bz K H1 a xs)/\R (K7 K a) H1
theorem Q7{X:Cx}{elts:List Expr}{x1}{tpos:Pos}{a:Expr}{ta:TA}{p pos:Pos}(hg:Gl X "enumerate")(hm:X.mg "enumerate"=none)(ha:PA X [a] ta)(hs:BC [a] X.env=[(false,eval a X.env)]:=by rfl):
  PI X (.Tuple elts x1 tpos) (.Call (.Name "enumerate" p) [a] [] pos) (WZ X.K ta):=by
 intro pins s σ H R I h
 refine Call_ (gy I hg hm boot_enumerate (BO (aM (ha pos pins s σ H _ I h) λus s1 ⟨vs,H1,I1,r1,q1⟩=>?_) hs rfl))
 obtain⟨l,e,⟨xs,hq⟩,q⟩:=q1
 subst e
 cases r1 with
 | cons r rr=>
  cases rr
  cases r
  obtain⟨its,rv,pl,hz⟩:=I1.list hq
  refine call_enumerate_list pl.isList λh' he hit hsz kk=>?_
  have I2:Inv X pins σ H1 {s1 with heap:=h'}:=I1.kept (t':=s1.toks) kk
  refine wpAny_pyIter_enum he ?_
  refine⟨s1.heap.objs.size+1,[s1.heap.objs.size+1,s1.heap.objs.size],_,_,H1,rfl,I2,K8 l _ _ (Nat.succ_ne_self _),⟨⟨_,by simpa using he⟩,hit⟩,λb hb=>?_,q⟩
  rcases Ac.mp hb with z | z
  ·subst z;exact I1.jZ (B' _) (I1.hok.fresh (B' _))
  ·have z':b=s1.heap.objs.size:=by simpa using z
   subst z';exact I1.jZ (AM _) (I1.hok.fresh (AM _))
theorem NF{K:AD}{a:Addr}{xs:List V}{g:TG}{tb:TS}{D:Ends}{σ:St}{H:Hp}(Pv:Nat->St->Hp->Prop)(h0:Pv 0 σ H)(hl:∀i σ H,i<=xs.length->Pv i σ H->bz K H a xs)
  (hs:∀i x p σ H,xs[i]? =some x->Pv i σ H->H p=none->g (.ref p) σ (upd H p (.tup [.int i,x])) λσ2 H2=>tb {D with nx:=Pv (i+1),ct:=Pv (i+1),bk:=D.nx} σ2 H2) (hd:∀σ H,Pv xs.length σ H->D.nx σ H):
  ∃W:Nat->Nat->St->Hp->Prop,(∃m,W 0 m σ H)/\∀i m σ H,W i m σ H->
   ((K7 K a).stop i H/\D.nx σ H)∨((K7 K a).go i H/\∃N:St->Hp->Prop,(∀σ' H',N σ' H'->∃m',m'<m/\W (i+1) m' σ' H')/\∀x H',(K7 K a).rE i H x H'->g x σ H' λσ2 H2=>tb {D with nx:=N,ct:=N,bk:=D.nx} σ2 H2):=by
 refine⟨λi m σ H=>m=xs.length-i/\i<=xs.length/\Pv i σ H,⟨xs.length,by simp,BG _,h0⟩,?_⟩
 rintro i m σ H ⟨rfl,hi,p⟩
 have q:=hl i σ H hi p
 by_cases hlt:i<xs.length
 ·refine .inr ⟨⟨xs,xs[i],q,by simp[hlt]⟩,Pv (i+1),λσ' H' p'=>⟨xs.length-(i+1),by omega,rfl,hlt,p'⟩,λx H' y=>?_⟩
  obtain⟨z,pa,hz,hn,e1,e2⟩:=y
  subst e1 e2
  exact hs i z pa σ H (hz xs q) p hn
 ·have e:i=xs.length:=by omega
  subst e
  exact .inl ⟨⟨xs,q,AM _⟩,hd σ H p⟩
def gu(env:Env):List (Str×Cj)->List (Str×Addr)->List (Str×Addr)
 | [],cs=>cs
 | (n,k)::r,cs=>gu env r (if k == .free then(n,(env.cells.lookup n).getD 0)::cs else cs)
theorem rS{env:Env}:∀(names:List (Str×Cj)) (cs:List (Str×Addr)),(∀y∈names,y.2=.free->∃c,env.cells.lookup y.1=some c)->
  (forIn names cs λ(x:Str×Cj) (r:List (Str×Addr))=>(match x with
   | (name,kind)=>if(kind == BK)=true then(cellOf env name >>= λa=>pure (DG ((name,a)::r)):Sem (ForInStep (List (Str×Addr)))) else pure (DG r)))=pure (gu env names cs)
 | [],cs,_=>rfl
 | (n,k)::r,cs,h=>by
  have ih:=λcs'=>rS r cs' λy hy=>h y (AV _ hy)
  rw[CL]
  by_cases hk:k=.free
  ·subst hk
   obtain⟨c,hc⟩:=h (n,.free) AZ rfl
   have e:cellOf env n=pure c:=by unfold cellOf;rw[hc]
   simp only[beq_self_eq_true,if_true,e,pure_bind]
   rw[ih]
   show _=pure (gu env r (if(BK == BK)=true then _ else _))
   rw[hc];rfl
  ·have hb:(k == BK)=false:=by simpa using hk
   simp only[hb,CY,if_false,pure_bind]
   rw[ih]
   show _=pure (gu env r (if(k == BK)=true then _ else _))
   rw[hb];rfl
theorem kJ{env:Env}{scope:Scope}(h:∀y∈scope.names,y.2=.free->∃c,env.cells.lookup y.1=some c):E7 scope env=pure (gu env scope.names []):=by
 unfold E7
 have e:=rS (env:=env) scope.names [] h
 show((forIn scope.names [] _:Sem (List (Str×Addr))) >>= λcs=>pure cs)=_
 rw[bind_pure]
 refine Eq.trans ?_ e
 first
  | rfl
  | (congr 1;funext x r;obtain⟨n,k⟩:=x;dsimp only;split<;>simp)
theorem xK{env:Env}{x:Str}{c:Addr}:∀(names:List (Str×Cj)) (cs:List (Str×Addr)),(x,c)∈gu env names cs->(x,c)∈cs∨((x,BK)∈names/\c=(env.cells.lookup x).getD 0)
 | [],cs,h=>.inl h
 | (n,k)::r,cs,h=>by
  have h':(x,c)∈gu env r (if(k == BK)=true then(n,(env.cells.lookup n).getD 0)::cs else cs):=h
  rcases xK r _ h' with z | ⟨z1,z2⟩
  ·by_cases hk:k=.free
   ·subst hk
    simp only[beq_self_eq_true,if_true,Ac] at z
    rcases z with z | z
    ·cases z;exact .inr ⟨AZ,rfl⟩
    ·exact .inl z
   ·have hb:(k == BK)=false:=by simpa using hk
    rw[hb] at z
    exact .inl z
  ·exact .inr ⟨AV _ z1,z2⟩
theorem u6{env:Env}{p:Str×Addr}:∀(names:List (Str×Cj)) (cs:List (Str×Addr)),p∈cs->p∈gu env names cs
 | [],cs,h=>h
 | (n,k)::r,cs,h=>by
  show p∈gu env r (if(k == BK)=true then(n,(env.cells.lookup n).getD 0)::cs else cs)
  refine u6 r _ ?_
  split
  ·exact AV _ h
  ·exact h
theorem xM{env:Env}{x:Str}:∀(names:List (Str×Cj)) (cs:List (Str×Addr)),(x,BK)∈names->(x,(env.cells.lookup x).getD 0)∈gu env names cs
 | [],_,h=>by cases h
 | (n,k)::r,cs,h=>by
  show _∈gu env r (if(k == BK)=true then(n,(env.cells.lookup n).getD 0)::cs else cs)
  rcases Ac.mp h with z | z
  ·cases z
   exact u6 r _ (by simp)
  ·exact xM r _ z
theorem lW{α β:Type}[BEq α][LawfulBEq α]{x:α}{c:β}:∀{l:List (α×β)},l.lookup x=some c->(x,c)∈l
 | [],h=>by simp at h
 | (n,k)::r,h=>by
  rw[Cy] at h
  by_cases e:x=n
  ·subst e;simp at h;subst h;exact AZ
  ·have:(x == n)=false:=by simpa using e
   rw[this] at h
   exact AV _ (lW h)
theorem lX{α β:Type}[BEq α][LawfulBEq α]{x:α}{c:β}:∀{l:List (α×β)},(x,c)∈l->∃c',l.lookup x=some c'
 | [],h=>by cases h
 | (n,k)::r,h=>by
  rw[Cy]
  by_cases e:x=n
  ·subst e;simp
  ·have q:(x == n)=false:=by simpa using e
   rw[q]
   rcases Ac.mp h with z | z
   ·cases z;exact absurd rfl e
   ·exact lX z
theorem dY{env:Env}{x:Str}{k':Cj}:∀{names:List (Str×Cj)},
  (names.map λ(n,k)=>if(k == BK&&env.scope.kind == .function&&env.kindOf n == some .cell) then(n,Ec) else(n,k)).lookup x=some k'->
  (x,k')∈names∨(k'=.cell/\(x,BK)∈names)
 | [],h=>by simp at h
 | (n,k)::r,h=>by
  rw[Ap,Cy] at h
  dsimp only at h
  by_cases e:x=n
  ·subst e
   by_cases hc:(k == BK&&env.scope.kind == .function&&env.kindOf x == some .cell)=true
   ·rw[if_pos hc] at h
    simp at h
    have hk:k=.free:=by
     simp only[Bg,beq_iff_eq] at hc
     exact hc.1.1
    subst hk
    exact .inr ⟨h.symm,AZ⟩
   ·rw[if_neg hc] at h
    simp at h
    subst h
    exact .inl AZ
  ·have q:(x == (if(k == BK&&env.scope.kind == .function&&env.kindOf n == some .cell)=true then(n,Ec) else(n,k)).1)=false:=by
    split<;>simpa using e
   rw[q] at h
   rcases dY h with z | ⟨z1,z2⟩
   ·exact .inl (AV _ z)
   ·exact .inr ⟨z1,AV _ z2⟩
structure aG (X:Cx)(scope:Scope)(own aI:List Str)(bJ:List Nat):Prop where
 cell:∀y∈scope.names,y.2≠.cell
 kind:scope.kind=.function
 names:∀y∈scope.names,y.2=.local->scope.names.lookup y.1=some .local
 free:∀y∈scope.names,y.2=.free->X.env.scope.names.lookup y.1=some .cell∨X.env.scope.names.lookup y.1=some .free
 frl:bJ.length=aI.length
 frN:∀(i j:Nat),bJ[i]? =some j->X.N[j]? =aI[i]?
 frF:∀x∈aI,(x,BK)∈scope.names/\scope.names.lookup x=some .free
def fQ(X:Cx)(own aI:List Str)(scope:Scope)(C:Addr)(s₃:AI)(H₃:Hp)(fp:List Addr):Cx:=
 {X with N:=own++aI,s₀:=s₃,H₀:=H₃,env:=compEnvC scope (gu X.env scope.names []) C X.env,outer:=X.stack,stack:=X.stack,ex:=fp,fn:=λ_=>false,pn:=[],xe:=λ_ _=>False}
def xN(own:List Str)(bJ:List Nat)(σ:St):St:=BY own.length none++bJ.map λj=>(σ[j]?).join
section
variable{X:Cx}{pins:List (Addr×Obj)}{σ:List (Option V)}{H:Hp}{s:AI}{scope:Scope}{own aI:List Str}{bJ:List Nat}
theorem aG.cells(sc:aG X scope own aI bJ)(ok:X.Ok):∀y∈scope.names,y.2=.free->∃c,X.env.cells.lookup y.1=some c:=λy hy hf=>by
 rcases sc.free y hy hf with z | z
 ·exact ok.has y.1 (.inl z)
 ·exact ok.has y.1 (.inr z)
theorem aG.look(sc:aG X scope own aI bJ)(ok:X.Ok){x:Str}{c:Addr}(h:(gu X.env scope.names []).lookup x=some c):X.env.cells.lookup x=some c/\(x,BK)∈scope.names:=by
 rcases xK _ _ (lW h) with z | ⟨z1,z2⟩
 ·cases z
 ·obtain⟨c',hc⟩:=sc.cells ok (x,.free) z1 rfl
  have hc':X.env.cells.lookup x=some c':=hc
  rw[hc'] at z2
  have z3:c=c':=z2
  subst z3
  exact⟨hc',z1⟩
theorem aG.Pt(sc:aG X scope own aI bJ)(ok:X.Ok){x:Str}(h:(x,BK)∈scope.names):∃c,(gu X.env scope.names []).lookup x=some c/\X.env.cells.lookup x=some c:=by
 obtain⟨c,hc⟩:=lX (xM (env:=X.env) scope.names [] h)
 exact⟨c,hc,(sc.look ok hc).1⟩
theorem Inv.block{fp:List Addr}{h₄:Heap}{tk:Nat}(I:Inv X pins σ H s)(sc:aG X scope own aI bJ)(hfp:∀b∈fp,fK X pins H b)(hfl:∀b∈fp,b<s.heap.objs.size)
  (k:∀b o,s.heap.get? b=some o->h₄.get? b=some o) (hn:h₄.Ns s.heap.objs.size λ_=>none):
  Inv (fQ X own aI scope s.heap.objs.size s H fp) [] (xN own bJ σ) H {s with heap:=h₄,toks:=tk}:=by
 have ok:=I.ok
 refine⟨⟨ok.mod,by show(relabel scope X.env).kind=_;exact sc.kind,ok.glob,ok.blt,AM _,?_,?_,λx c h=>(nomatch h),ok.hd,ok.frames,.inl rfl,?_,λb o e=>I.bs b o e,BB ok.oE I.sz,?_,?_,I.stack,I.lR⟩,rfl,I.bare,Un.kept k,?_,?_,I.fresh,?_,λp hp=>(nomatch hp),I.hok.kept k,?_⟩
 ·intro x y c e1 e2
  exact ok.inj x y c (sc.look ok e1).1 (sc.look ok e2).1
 ·intro x h
  have mem:(x,BK)∈scope.names:=by
   rcases h with h | h
   ·rcases dY h with z | ⟨_,z⟩
    ·exact absurd rfl (sc.cell _ z)
    ·exact z
   ·rcases dY h with z | ⟨z,_⟩
    ·exact z
    ·cases z
  obtain⟨c,hc,_⟩:=sc.Pt ok mem
  exact⟨c,hc⟩
 ·intro b hb
  obtain⟨f0,f1,f2,f3,f4,f5⟩:=hfp b hb
  exact⟨Ae (hfl b hb),λx c e=>f4 x c (sc.look ok e).1⟩
 ·intro b o e hb
  rcases(hfp b hb).2.2.2.1 with z | z
  ·exact ok.xr b o e z
  ·exact absurd (AY (AN e) (BB ok.oE z)) (BQ _)
 ·intro b hb hfs
  obtain⟨f0,f1,f2,_⟩:=hfp b hb
  rcases Ac.mp (I.oF b hfs) with z | z
  ·exact f1 z
  ·exact f2 z
 ·refine⟨_,hn,λi x v e1 e2 e3=>?_⟩
  have e1':(own++aI)[i]? =some x:=e1
  have e2':(BY own.length none++bJ.map λj=>(σ[j]?).join)[i]? =some (some v):=e2
  by_cases hi:i<own.length
  ·rw[An (by simpa using hi)] at e2'
   rw[Fc] at e2'
   split at e2'<;>cases e2'
  ·rw[Aj (by simp;omega),Bu] at e2'
   rw[Aj (by omega)] at e1'
   rw[AW] at e2'
   cases ej:bJ[i-own.length]? with
   | none=>rw[ej] at e2';cases e2'
   | some j=>
    rw[ej] at e2'
    have JJ:(σ[j]?).join=some v:=by simpa using e2'
    have e4:σ[j]? =some (some v):=by
     cases q:σ[j]? with
     | none=>rw[q] at JJ;cases JJ
     | some o=>rw[q] at JJ;simpa using JJ
    have e5:=(sc.frN _ j ej).trans e1'
    obtain⟨hm,hlk⟩:=sc.frF x (AL e1')
    obtain⟨m,hnL,hl⟩:=I.loc
    have hv:Ia X.env.scope x:=by
     rcases sc.free (x,.free) hm rfl with z | z
     ·exact .inr (.inl z)
     ·exact .inr (.inr z)
    obtain⟨u,r,lk⟩:=hl j x v e5 e4 hv
    refine⟨u,r,.inr ?_⟩
    obtain⟨c,hc,hc'⟩:=sc.Pt ok hm
    have SW:h₄.IsCell c (some u):=by
     rcases lk with⟨z,_⟩ | ⟨_,c',hx,⟨o,ho,hd⟩⟩
     ·exfalso
      have z':X.env.scope.names.lookup x=some .local:=z
      rcases sc.free (x,.free) hm rfl with q | q
      ·rw[show X.env.scope.names.lookup x=some .cell from q] at z';cases z'
      ·rw[show X.env.scope.names.lookup x=some .free from q] at z';cases z'
     ·rw[hc'] at hx;cases hx
      exact⟨o,k _ o ho,hd⟩
    refine⟨?_,c,hc,SW⟩
    have e3':Ia (relabel scope X.env) x:=e3
    rcases e3' with z | z | z
    ·exfalso
     rcases dY z with q | ⟨q,_⟩
     ·have:=sc.names _ q rfl
      rw[show scope.names.lookup x=some .local from this] at hlk
      cases hlk
     ·cases q
    ·exact .inl z
    ·exact .inr z
 ·intro x c e
  obtain⟨v,o,ho,hd⟩:=I.cell x c (sc.look ok e).1
  exact⟨v,o,k _ o ho,hd⟩
 ·intro x c e
  exact I.gb x c (sc.look ok e).1
 ·show(BY own.length none++bJ.map λj=>(σ[j]?).join).length=(own++aI).length
  simp[sc.frl]
end
theorem mX{prog:Ak}{w:World}{A:A9}{R:Result->AI->Prop}{s:AI}{elt target iter:Expr}{ifs:List Expr}{scope:Scope}{pos:Pos}{it acc:Value}{env:Env}(I:Nat->AI->Prop)
  (turn:∀n s,I n s->wpAny (model prog w) A (Ce it) (λr s₁=>match r with
   | none=>R (.ok .next) s₁
   | some v=>wpAny (model prog w) A (Eh target it v) (λ_ s₁'=>wpAny (model prog w) A (assign target env v) (λ_ s₂=>
     wpAny (model prog w) A (forIn ifs true λc r=>if r=true then do let ok <-isTrue c env (eval c env);pure (DG ok) else pure (DG r)) (λok s₃=>
      if ok=true then wpAny (model prog w) A (eval elt env) (λx s₄=>
       wpAny (model prog w) A (call (.builtin "list.append") [acc,x]) (λ_ s₅=>∃m,m<n/\I m s₅) (λ_ _=>False) s₄) (λ_ _=>False) s₃
      else ∃m,m<n/\I m s₃) (λ_ _=>False) s₂) (λ_ _=>False) s₁') (λ_ _=>False) s₁) (λ_ _=>False) s)
  (n:Nat) (h:I n s):
  EY (model prog w) A (.compLoop (.ListComp elt [⟨target,iter,ifs,0⟩] scope pos) 0 it acc env) R s:=by
 refine codeAny_loop rfl I (λn s hI=>?_) n h
 show wpAny _ A ((compTurn (.ListComp elt [⟨target,iter,ifs,0⟩] scope pos) 0 it acc env).onRaise (λx=>do noteFrame x env;theTreesLotGoes x)) _ _ s
 refine wpAny_noted ?_
 rw[compTurn_list]
 refine AA (G' (AA (Bi (turn n s hI) (λr s₁ h₁=>?_) λ_ _ h'=>h'.elim)))
 cases r with
 | none=>exact AH h₁
 | some v=>
  refine AA (Bi h₁ (λ_ s₁' h₁'=>?_) λ_ _ h'=>h'.elim)
  refine AA (Bi h₁' (λ_ s₂ h₂=>AA (Bi h₂ (λok s₃ h₃=>?_) λ_ _ h'=>h'.elim)) λ_ _ h'=>h'.elim)
  cases ok with
  | false=>exact AH ⟨rfl,h₃⟩
  | true=>
   exact AA (AA (Bi h₃ (λx s₄ h₄=>AA (Bi h₄ (λ_ s₅ h₅=>AH (AH ⟨rfl,h₅⟩)) λ_ _ h'=>h'.elim)) λ_ _ h'=>h'.elim))
def tT(X:Cx)(ifs:List Expr)(t:TT):Prop:=
 ∀(pins:List (Addr×Obj)) (s:AI) (σ:St) (H:Hp) (Q:Bool->Hp->Prop),Inv X pins σ H s->t σ H Q->
  wpAny (model X.prog X.w) X.A (forIn ifs true λc r=>if r=true then do let ok <-isTrue c X.env (eval c X.env);pure (DG ok) else pure (DG r)) (TP X pins σ Q) X.xe s
def W_:TT:=λ_ H Q=>Q true H
theorem a_{X:Cx}:tT X [] W_:=λ_ _ _ H _ I h=>wpAny_tests_nil ⟨H,I,h⟩
theorem qE{X:Cx}{c:Expr}{t:TT}(h:PT X c t):tT X [c] t:=λpins s σ H Q I hq=>wpAny_tests_one (h pins s σ H Q I hq)
def kK(J:It)(g:TG)(tt:TT)(te:TE)(D:Addr)(σ:St)(H:Hp)(R:Hp->Prop):Prop:=
 ∃W:Nat->Nat->St->Hp->Prop,(∃m,W 0 m σ H)/\∀i m σ H,W i m σ H->(J.stop i H/\R H)∨(J.go i H/\∃N:St->Hp->Prop,(∀σ' H',N σ' H'->∃m',m'<m/\W (i+1) m' σ' H')/\
  ∀x H',J.rE i H x H'->g x σ H' λσ2 H2=>tt σ2 H2 λb H3=>if b=true then te σ2 H3 λy H4=>∃ys,H4 D=some (.lst ys)/\ys.length<sizeLine/\N σ2 (upd H4 D (.lst (ys++[y]))) else N σ2 H3)
section
variable{X:Cx}{scope:Scope}{own aI:List Str}{bJ:List Nat}{elt tg iter:Expr}{ifs:List Expr}{pos:Pos}{g:TG}{tt:TT}{te:TE}
theorem rV{pins:List (Addr×Obj)}{σ:St}{H:Hp}{s:AI}{J:It}{fp:List Addr}{it:Addr}{tn:Nat->Heap->Prop}{R:Addr->Hp->Prop}{RR:Value->Addr->Result->AI->Prop}{E:Value->AI->Prop}
  (sc:aG X scope own aI bJ) (hc:X.calm=true)
  (hg:∀C s₃ H₃ fp,PG (fQ X own aI scope C s₃ H₃ fp) tg g) (ht:∀C s₃ H₃ fp,tT (fQ X own aI scope C s₃ H₃ fp) ifs tt) (he:∀C s₃ H₃ fp,PE (fQ X own aI scope C s₃ H₃ fp) elt te)
  (I:Inv X pins σ H s) (T:Turn X.prog X.w X.K tg J fp it tn) (st:tn 0 s.heap) (hfp:∀b∈fp,fK X pins H b)
  (h:∀D,H D=none->kK J g tt te D (xN own bJ σ) (upd H D (.lst [])) (R D))
  (hRR:∀D C H' s' m,Inv X pins σ H' s'->s.heap.objs.size<=C->s'.heap.Ns C m->H' C=none->R D H'->RR (.ref D) C (.ok .next) s'):
  wpAny (model X.prog X.w) X.A (newList []) (λacc s₃=>wpAny (model X.prog X.w) X.A (Gn scope X.env.globals (gu X.env scope.names []) [] X.env.qual none .none (some X.env)) (λcenv s₄=>
   EY (model X.prog X.w) X.A (.compStart (.ListComp elt [⟨tg,iter,ifs,0⟩] scope pos) 0 (.ref it) acc {cenv with scope:=relabel scope X.env}) (RR acc cenv.locals) s₄) E s₃) E s:=by
 refine BZ (wpAny_newFunctionEnv sc.cell (by intro y hy;simp at hy) (λh₁ hns₁ hsb₁=>?_) sc.kind)
 dsimp only at hns₁ hsb₁ ⊢
 have hD:=I.fresh
 have I3:Inv X pins σ (upd H s.heap.objs.size (.lst [])) {s with heap:=s.heap.push {cls:=.type "list",dict:=none,data:=.seq ([]:List Value).toArray}}:=I.Zw (its:=[]) (t':=s.toks) .nil (BG _)
 have hsz:(s.heap.push {cls:=.type "list",dict:=none,data:=.seq ([]:List Value).toArray}).objs.size=s.heap.objs.size+1:=Ay ..
 generalize hs3:({s with heap:=s.heap.push {cls:=.type "list",dict:=none,data:=.seq ([]:List Value).toArray}}:AI)=s₃ at I3
 have hh3:s.heap.push {cls:=.type "list",dict:=none,data:=.seq ([]:List Value).toArray}=s₃.heap:=by rw[<-hs3]
 rw[hh3] at hns₁ hsb₁ hsz ⊢
 have hfl:∀b∈fp,b<s.heap.objs.size:=λb hb=>by
  obtain⟨o,e,_⟩:=T.obj 0 _ st b hb
  exact AN e
 have NG:∀b∈fp,fK X pins (upd H s.heap.objs.size (.lst [])) b:=λb hb=>by
  obtain⟨f0,f⟩:=hfp b hb
  exact⟨by rw[ao (Ae (hfl b hb))];exact f0,f⟩
 have Zz:∀b∈fp,b<s₃.heap.objs.size:=λb hb=>by rw[hsz];exact CJ (hfl b hb)
 have k4:∀b o,s₃.heap.get? b=some o->h₁.get? b=some o:=λb o e=>(hsb₁.2 b (Ae (AN e))).trans (AE _ e)
 have k3:∀b o,s.heap.get? b=some o->s₃.heap.get? b=some o:=λb o e=>by rw[<-hh3];exact AE _ e
 have hnone:(λx:Str=>List.lookup x ([]:List (Str×Value)).reverse)=λ_=>none:=by funext x;rfl
 have W0:h₁.Ns s₃.heap.objs.size λ_=>none:=by
  have q:=hns₁
  first
   | exact q
   | (rw[hnone] at q;exact q)
 have I4:=I3.block (own:=own) (tk:=s.toks+([]:List (Str×Value)).length) sc NG Zz k4 W0
 have Pu:tn 0 h₁:=T.keep _ _ _ st λb hb o e=>k4 b o (k3 b o e)
 generalize hX:fQ X own aI scope s₃.heap.objs.size s₃ (upd H s.heap.objs.size (.lst [])) fp=X' at I4
 have XT:X'.prog=X.prog:=by rw[<-hX];rfl
 have XU:X'.w=X.w:=by rw[<-hX];rfl
 have hXK:X'.K=X.K:=by rw[<-hX];rfl
 have hXA:X'.A=X.A:=by rw[<-hX];rfl
 have XW:X'.calm=true:=by rw[<-hX];exact hc
 have hXx:X'.xe=λ_ _=>False:=by rw[<-hX];rfl
 have hXe:X'.env=compEnvC scope (gu X.env scope.names []) s₃.heap.objs.size X.env:=by rw[<-hX];rfl
 have hg':PG X' tg g:=by rw[<-hX];exact hg _ _ _ _
 have ht':tT X' ifs tt:=by rw[<-hX];exact ht _ _ _ _
 have he':PE X' elt te:=by rw[<-hX];exact he _ _ _ _
 have ofX:∀{H':Hp} {s':AI} {σ':St},Inv X' [] σ' H' s'->Inv X pins σ H' s'/\(∃m,s'.heap.Ns s₃.heap.objs.size m)/\H' s₃.heap.objs.size=none:=by
  intro H' s' σ' I'
  subst hX
  refine⟨I3.call' (ch:=fp) I'.os I'.base I'.hok I'.bare λb hb=>?_,let ⟨m,hn,_⟩:=I'.loc;⟨m,hn⟩,I'.free⟩
  obtain⟨f0,f1,f2,f3,f4,f5⟩:=NG b hb
  exact⟨f3,f1,f4,f5⟩
 have stat:∀{H':Hp},(∀b∈fp,H' b=none)->∀b∈fp,fK X' [] H' b:=by
  intro H' hn b hb
  subst hX
  obtain⟨a1,a2⟩:=I4.ok.Sj b hb
  exact⟨hn b hb,a1,I4.ok.xt b hb,.inl hb,a2,λp hp=>by cases hp⟩
 obtain⟨W,⟨m0,w0⟩,turn⟩:=h s.heap.objs.size hD
 have loop:EY (model X.prog X.w) X.A (.compLoop (.ListComp elt [⟨tg,iter,ifs,0⟩] scope pos) 0 (.ref it) (.ref s.heap.objs.size) X'.env) (RR (.ref s.heap.objs.size) s₃.heap.objs.size)
   {s₃ with heap:=h₁,toks:=s.toks+([]:List (Str×Value)).length}:=by
  refine mX (λn s'=>∃i σ' H',Inv X' [] σ' H' s'/\tn i s'.heap/\(∀b∈fp,H' b=none)/\W i n σ' H') ?_ m0 ⟨0,_,_,I4,Pu,λb hb=>(NG b hb).1,w0⟩
  rintro n s5 ⟨i,σ5,H5,I5,Ig,Pj,w5⟩
  rw[<-XT,<-XU,<-hXA]
  have Pw:∀{α:Type} {t:Sem α} {Q:α->AI->Prop} {s:AI},wpAny (model X'.prog X'.w) X'.A t Q X'.xe s->wpAny (model X'.prog X'.w) X'.A t Q (λ_ _=>False) s:=λh=>by rw[hXx] at h;exact h
  have T':Turn X'.prog X'.w X'.K tg J fp it tn:=by rw[XT,XU,hXK];exact T
  rcases turn i n σ5 H5 w5 with⟨stop,q⟩ | ⟨go,N,hN,step⟩
  ·refine aM (T'.done X' rfl rfl rfl XW i [] s5 σ5 H5 _ I5 (stat Pj) Ig stop) λr s6 ⟨hr,I6⟩=>?_
   subst hr
   obtain⟨J1,⟨m,J2⟩,J3⟩:=ofX I6
   exact hRR _ _ H5 s6 m J1 (by rw[hsz];exact B' _) J2 J3 q
  ·refine aM (T'.item X' rfl rfl rfl XW i [] s5 σ5 H5 _ I5 (stat Pj) Ig go) λr s6 ⟨u,hr,h6⟩=>?_
   subst hr
   refine aM h6 λ_ s7 ⟨x,H7,I7,r7,y7,SX,fr7⟩=>?_
   have I7':=I7.pinned (stat fr7) (T'.obj _ _ SX)
   have again:∀{s9:AI} {σ9:St} {H9:Hp},Inv X' ([]++oJ fp s7.heap) σ9 H9 s9->N σ9 H9->∃m,m<n/\∃i σ' H',Inv X' [] σ' H' s9/\tn i s9.heap/\(∀b∈fp,H' b=none)/\W i m σ' H':=λ{s9 σ9 H9} I9 n9=>by
    obtain⟨m',hm,w9⟩:=hN σ9 H9 n9
    refine⟨m',hm,i+1,σ9,H9,I9.mR,T'.keep _ _ _ SX λb hb o e=>(I9.pin (b,o) (BW _ (BW _ (jI hb e)))).1,λb hb=>?_,w9⟩
    obtain⟨o,e,d⟩:=T'.obj _ _ SX b hb
    exact(I9.pin (b,o) (BW _ (BW _ (jI hb e)))).2.1
   refine aM (Pw (hg' _ s7 σ5 H7 x u _ I7' r7 (step x H7 y7))) λ_ s8 ⟨σ8,H8,I8,q8⟩=>?_
   refine aM (Pw (ht' _ s8 σ8 H8 _ I8 q8)) λb s9 ⟨H9,I9,q9⟩=>?_
   cases b with
   | false=>exact again I9 (by simpa using q9)
   | true=>
    rw[if_pos rfl] at q9
    refine aM (Pw (he' _ s9 σ8 H9 _ I9 q9)) λy s10 ⟨v,SY,I10,r10,q10⟩=>?_
    obtain⟨ys,e10,z10,n10⟩:=q10
    refine aM (Pw (cy _ s10 σ8 SY (.ref s.heap.objs.size) [v] (.ref s.heap.objs.size) [y] (λ_ H'=>H'=upd SY s.heap.objs.size (.lst (ys++[v]))) I10 rfl (.cons r10 .nil) ⟨_,ys,v,rfl,rfl,e10,z10,rfl⟩)) λu s11 ⟨v',H11,I11,_,S_⟩=>?_
    subst S_
    exact again I11 n10
 rw[hXe] at loop
 have e4:({s with heap:=h₁,toks:=s.toks+([]:List (Str×Value)).length}:AI)={s₃ with heap:=h₁,toks:=s.toks+([]:List (Str×Value)).length}:=by rw[<-hs3]
 rw[e4]
 exact codeAny_compStart_list loop (T.self _ 0 _ _ _ Pu loop)
end
def Px(own:List Str)(bJ:List Nat)(wi:TI)(g:TG)(tt:TT)(te:TE):TE:=λσ H Q=>wi σ H λJ H1=>∀D,H1 D=none->kK J g tt te D (xN own bJ σ) (upd H1 D (.lst [])) λH'=>Q (.ref D) H'
section
variable{X:Cx}{scope:Scope}{own aI:List Str}{bJ:List Nat}{elt tg iter:Expr}{ifs:List Expr}{pos:Pos}{wi:TI}{g:TG}{tt:TT}{te:TE}
theorem bN(sc:aG X scope own aI bJ)(hc:X.calm=true)(hi:PI X tg iter wi)
  (hg:∀C s₃ H₃ fp,PG (fQ X own aI scope C s₃ H₃ fp) tg g) (ht:∀C s₃ H₃ fp,tT (fQ X own aI scope C s₃ H₃ fp) ifs tt) (he:∀C s₃ H₃ fp,PE (fQ X own aI scope C s₃ H₃ fp) elt te)
  (hs:∀x,FL iter X.env x=pure x:=by intro _;rfl):PE X (.ListComp elt [⟨tg,iter,ifs,0⟩] scope pos) (Px own bJ wi g tt te):=by
 intro pins s σ H Q I h
 rw[eval_ListComp]
 refine FW (use:=none) rfl hs (kJ (sc.cells I.ok)) sc.kind sc.names (aM (hi pins s σ H _ I h) λv s1 h1=>aM h1 λitv s2 h2=>?_)
 obtain⟨it,fp,tn,J,H2,e,I2,T,st2,f2,q⟩:=h2
 subst e
 refine rV (RR:=λacc C=>compPost (model X.prog X.w) X.A X.xe none (EP X pins σ Q) acc C) (R:=λD H'=>Q (.ref D) H') sc hc hg ht he I2 T st2 f2 q ?_
 intro D C H' s' m I' hC hn hf hq
 refine⟨m,hn,λh' sb=>?_⟩
 obtain⟨f0,f1,f2,f3,f4,f5⟩:=I2.jZ (H':=H') hC hf
 exact⟨.ref D,H',I'.turned (t':=s'.toks) (it:=C) (λb o hb e=>(sb.2 b hb).trans e) f0 f1 f3 f4 f5,rfl,hq⟩
theorem gc{i:Nat}{y:Str}{py spos:Pos}(sc:aG X scope own aI bJ)(hc:X.calm=true)(hi:PI X tg iter wi)
  (hg:∀C s₃ H₃ fp,PG (fQ X own aI scope C s₃ H₃ fp) tg g) (ht:∀C s₃ H₃ fp,tT (fQ X own aI scope C s₃ H₃ fp) ifs tt) (he:∀C s₃ H₃ fp,PE (fQ X own aI scope C s₃ H₃ fp) elt te)
  (hN:X.N.Nodup) (hi':X.N[i]? =some y) (hx:X.env.scope.names.lookup y=some .local)
  (hsw:Gw (.ListComp elt [⟨tg,iter,ifs,0⟩] scope pos) (some (.Name y py)) spos.line X.env=pure true:=by rfl)
  (hs:∀x,FL iter X.env x=pure x:=by intro _;rfl):PS X (.Assign [.Name y py] (.ListComp elt [⟨tg,iter,ifs,0⟩] scope pos) spos) (xx (Px own bJ wi g tt te) (aJ i)):=by
 intro pins s σ H D I h
 rw[exec_Assign_Name_used _ _ _ _ hsw]
 refine AA (G' (AA ?_))
 show wpAny _ X.A (do let _ <-comprehension (.ListComp elt [⟨tg,iter,ifs,0⟩] scope pos) scope X.env _ (newList []) false (eval iter X.env) (some (assign (.Name y py) X.env))) _ _ s
 refine AA (Bi (FW (use:=some (assign (.Name y py) X.env)) (Q:=λ_ s'=>SP X pins D .next s') rfl hs (kJ (sc.cells I.ok)) sc.kind sc.names
  (aM (hi pins s σ H _ I h) λv s1 h1=>aM h1 λitv s2 h2=>?_)) (λ_ s' hq=>AH (AH hq)) λ_ _ e=>e)
 obtain⟨it,fp,tn,J,H2,e,I2,T,st2,f2,q⟩:=h2
 subst e
 refine rV (RR:=λacc C=>compPost (model X.prog X.w) X.A X.xe (some (assign (.Name y py) X.env)) (λ_ s'=>SP X pins D .next s') acc C) (R:=λE H'=>D.nx (σ.set i (some (.ref E))) H') sc hc hg ht he I2 T st2 f2 q ?_
 intro E C H' s' m I' hC hn hf hq
 show wpAny _ X.A (assign (.Name y py) X.env (.ref E)) _ _ _
 obtain⟨f0,f1,f2,f3,f4,f5⟩:=I2.jZ (H':=H') hC hf
 refine wpAny_assign_Name (uP I' hN hi' (.inl hx) (v:=.ref E) (u:=.ref E) rfl (λs3 I3 ⟨a,sb,ha⟩=>?_) (.inr hx))
 have hCa:C≠a:=by
  rcases ha with z | z
  ·rw[z];exact f1
  ·exact(f4 y a z).symm
 refine⟨m,hn.sameBut sb hCa,λh' sb'=>?_⟩
 exact⟨_,H',I3.turned (t':=s3.toks) (it:=C) (λb o hb e=>(sb'.2 b hb).trans e) f0 f1 f3 f4 f5,hq⟩
end
theorem dZ{lo:Int}{n:Nat}{g:TG}{tt:TT}{te:TE}{D:Addr}{σ:St}{H:Hp}{R:Hp->Prop}(Pv:Nat->St->Hp->Prop)(h0:Pv 0 σ H)
  (hs:∀i σ H,i<n->Pv i σ H->g (.int (lo+i)) σ H λσ2 H2=>tt σ2 H2 λb H3=>if b=true then te σ2 H3 λy H4=>∃ys,H4 D=some (.lst ys)/\ys.length<sizeLine/\Pv (i+1) σ2 (upd H4 D (.lst (ys++[y]))) else Pv (i+1) σ2 H3)
  (hd:∀σ H,Pv n σ H->R H):kK (uR lo n) g tt te D σ H R:=by
 refine⟨λi m σ H=>m=n-i/\i<=n/\Pv i σ H,⟨n,by simp,BG _,h0⟩,?_⟩
 rintro i m σ H ⟨rfl,hi,p⟩
 by_cases hlt:i<n
 ·refine .inr ⟨hlt,Pv (i+1),λσ' H' p'=>⟨n-(i+1),by omega,rfl,hlt,p'⟩,λx H' y=>?_⟩
  obtain⟨e,y⟩:=y
  subst e y
  exact hs i σ _ hlt p
 ·have e:i=n:=by omega
  subst e
  exact .inl ⟨AM _,hd σ H p⟩
theorem dn{K:AD}{a:Addr}{xs:List V}{g:TG}{tt:TT}{te:TE}{D:Addr}{σ:St}{H:Hp}{R:Hp->Prop}(Pv:Nat->St->Hp->Prop)(h0:Pv 0 σ H)(hl:∀i σ H,i<=xs.length->Pv i σ H->bz K H a xs)
  (hs:∀i x σ H,xs[i]? =some x->Pv i σ H->g x σ H λσ2 H2=>tt σ2 H2 λb H3=>if b=true then te σ2 H3 λy H4=>∃ys,H4 D=some (.lst ys)/\ys.length<sizeLine/\Pv (i+1) σ2 (upd H4 D (.lst (ys++[y]))) else Pv (i+1) σ2 H3)
  (hd:∀σ H,Pv xs.length σ H->R H):kK (Ie K a) g tt te D σ H R:=by
 refine⟨λi m σ H=>m=xs.length-i/\i<=xs.length/\Pv i σ H,⟨xs.length,by simp,BG _,h0⟩,?_⟩
 rintro i m σ H ⟨rfl,hi,p⟩
 have q:=hl i σ H hi p
 by_cases hlt:i<xs.length
 ·refine .inr ⟨⟨xs,xs[i],q,by simp[hlt]⟩,Pv (i+1),λσ' H' p'=>⟨xs.length-(i+1),by omega,rfl,hlt,p'⟩,λx H' y=>?_⟩
  obtain⟨e,y⟩:=y
  subst e
  exact hs i x σ _ (y xs q) p
 ·have e:i=xs.length:=by omega
  subst e
  exact .inl ⟨⟨xs,q,AM _⟩,hd σ H p⟩
theorem fj{K:AD}{a:Addr}{xs:List V}{g:TG}{tt:TT}{te:TE}{D:Addr}{σ:St}{H:Hp}{R:Hp->Prop}(Pv:Nat->St->Hp->Prop)(h0:Pv 0 σ H)(hl:∀i σ H,i<=xs.length->Pv i σ H->aZ K H a xs)
  (hs:∀i x σ H,xs[i]? =some x->Pv i σ H->g x σ H λσ2 H2=>tt σ2 H2 λb H3=>if b=true then te σ2 H3 λy H4=>∃ys,H4 D=some (.lst ys)/\ys.length<sizeLine/\Pv (i+1) σ2 (upd H4 D (.lst (ys++[y]))) else Pv (i+1) σ2 H3)
  (hd:∀σ H,Pv xs.length σ H->R H):kK (xy K a) g tt te D σ H R:=by
 refine⟨λi m σ H=>m=xs.length-i/\i<=xs.length/\Pv i σ H,⟨xs.length,by simp,BG _,h0⟩,?_⟩
 rintro i m σ H ⟨rfl,hi,p⟩
 have q:=hl i σ H hi p
 by_cases hlt:i<xs.length
 ·refine .inr ⟨⟨xs,xs[i],q,by simp[hlt]⟩,Pv (i+1),λσ' H' p'=>⟨xs.length-(i+1),by omega,rfl,hlt,p'⟩,λx H' y=>?_⟩
  obtain⟨e,y⟩:=y
  subst e
  exact hs i x σ _ (y xs q) p
 ·have e:i=xs.length:=by omega
  subst e
  exact .inl ⟨⟨xs,q,AM _⟩,hd σ H p⟩
section
variable{X:Cx}
def W2(i j:Int):Prop:=0<j/\j.natAbs.log2<9000
theorem iN:dm X (CU .FloorDiv) (rI W2 λi j=>.int (i / j)):=Pl λi j _ _ _ _ _ hc q=>by
 obtain⟨h0,h1⟩:=hc
 refine floordiv_int (by omega) ?_ (.inl (PyProof.noPylong_of_log2 h1))
 rw[Int.fdiv_eq_ediv_of_nonneg _ (by omega)]
 exact q
theorem K9(hc:X.calm=true):cS X (.builtin "sum") (λxs H Q=>∃(a:Addr) (ns:List Int),xs=[.ref a]/\bz X.K H a (ns.map V.int)/\Q (.int ns.sum) H):=by
 intro pins s σ H xs us Q I r h
 obtain⟨a,ns,rfl,hq,q⟩:=h
 obtain⟨u,rfl,ru⟩:=vals1 r
 cases ru
 obtain⟨its,rv,p,_⟩:=I.list hq
 have hi:Ft its ns:=intsAre_of rv
 have all:=hi.allInts
 obtain⟨ys,hy⟩:=all.items
 have e:(numsOf its.toArray.toList).sum=ns.sum:=by rw[show its.toArray.toList=its from rfl,hi.numsOf]
 have hl:=p.isList
 rw[hy] at hl e
 rw[nums_intItems] at e
 refine sum_intListG (I.ok.hd hc) hl λh' tk t' k=>⟨.int (preSum (numAt ys) ys.size),H,I.kept k,⟨t',rfl⟩,?_⟩
 rw[preSum_eq,Bp (by simp)]
 first
  | (rw[e];exact q)
  | (simp only[e];exact q)
theorem zX:cS X (.builtin "isinstance") (λxs H Q=>∃(x:V) (t:Value) (T:String) (b:Bool),xs=[x,.ty T]/\gs X.K H x t/\A5 X.K t (.type T)=some b/\Q (.bl b) H):=by
 intro pins s σ H xs us Q I r h
 obtain⟨x,t,T,b,rfl,ty,e,q⟩:=h
 obtain⟨u,w',rfl,rx,rT⟩:=vals2 r
 cases(show w'=HC T from rT)
 exact KU I rx ty e λtk=>⟨.bl b,H,I.tok tk,rfl,q⟩
theorem S0{K:AD}:A5 K (.type "int") (.type "int")=some true:=by rfl
theorem S3{K:AD}:A5 K (.type "int") (.type "bool")=some false:=by rfl
theorem xO{K:AD}:A5 K (.type "list") (.type "list")=some true:=by rfl
theorem xP{K:AD}:A5 K (.type "tuple") (.type "tuple")=some true:=by rfl
theorem Iy:dm X (CU .Add) (λx y H Q=>∃(a b:Addr) (ys:List V),x=.ref a/\y=.ref b/\aZ X.K H a []/\aZ X.K H b ys/\Q (.ref b) H):=by
 intro pins s σ H x y v u Q I rx ry h
 obtain⟨a,b,ys,rfl,rfl,ha,hb,q⟩:=h
 cases rx
 cases ry
 obtain⟨its,r1,p1,_⟩:=I.tuple ha
 obtain⟨its2,r2,p2,_⟩:=I.tuple hb
 cases r1
 obtain⟨⟨cls,dd,data,sl⟩,ho,hc,n,hd⟩:=id p1
 obtain⟨⟨cls2,dd2,data2,sl2⟩,ho2,hc2,n2,hd2⟩:=id p2
 simp only at hc hd hc2 hd2
 subst hc hd hc2 hd2
 exact concat_meets ⟨_,ho,rfl⟩ ⟨_,ho2,rfl⟩ Fd G_ EC D6 (Dr _ _)
  (tuple_addW0 a b #[] its2.toArray n n2 dd dd2 sl sl2 rfl) ⟨ho,ho2,⟨.ref b,H,I,rfl,q⟩⟩
def Py(K:AD):R2:=λx y H Q=>∃(a b:Addr) (xs ys:List V),x=.ref a/\y=.ref b/\aZ K H a xs/\aZ K H b ys/\ys≠[]/\xs.length+ys.length<=sizeLine/\
 (xs=[]->Q (.ref b) H)/\(xs≠[]->∀p,H p=none->Q (.ref p) (upd H p (.tup (xs++ys))))
theorem Q8:dm X (CU .Add) (Py X.K):=by
 intro pins s σ H x y v u Q I rx ry h
 obtain⟨a,b,xs,ys,rfl,rfl,ha,hb,hy,hz,q1,q2⟩:=h
 by_cases hx:xs=[]
 ·subst hx
  exact Iy pins s σ H _ _ v u Q I rx ry ⟨a,b,ys,rfl,rfl,ha,hb,q1 rfl⟩
 ·exact Ir pins s σ H _ _ v u Q I rx ry ⟨a,b,xs,ys,rfl,rfl,ha,hb,hx,hz,λz=>absurd z hy,λ_=>q2 hx⟩
end
def u9(scope esc:Scope)(N own aI:List Str)(bJ:List Nat):Bool:=
 scope.names.all (λy=>y.2 != .cell)&&scope.kind == .function&&scope.names.all (λy=>y.2 != .local||scope.names.lookup y.1 == some .local)
 &&scope.names.all (λy=>y.2 != .free||(esc.names.lookup y.1 == some .cell||esc.names.lookup y.1 == some .free))
 &&bJ.length == aI.length&&(BM bJ.length).all (λi=>(bJ[i]?).bind (λj=>N[j]?) == aI[i]?)
 &&aI.all (λx=>scope.names.contains (x,BK)&&scope.names.lookup x == some .free)
theorem aG.mk'{X:Cx}{scope esc:Scope}{N own aI:List Str}{bJ:List Nat}(hs:X.env.scope=esc)(hN:X.N=N)(h:u9 scope esc N own aI bJ=true):aG X scope own aI bJ:=by
 unfold u9 at h
 simp only[Bg,EU,bne_iff_ne,beq_iff_eq,Bool.or_eq_true,List.contains_iff_mem] at h
 obtain⟨⟨⟨⟨⟨⟨h1,h2⟩,h3⟩,h4⟩,h5⟩,h6⟩,h7⟩:=h
 refine⟨h1,h2,λy hy hl=>?_,λy hy hf=>?_,h5,λi j e=>?_,λx hx=>h7 x hx⟩
 ·rcases h3 y hy with z | z
  ·exact absurd hl z
  ·exact z
 ·rw[hs]
  rcases h4 y hy with z | z
  ·exact absurd hf z
  ·exact z
 ·have hi:i<bJ.length:=(AF.mp e).1
  have q:=h6 i (CT.mpr hi)
  rw[e] at q
  rw[hN]
  exact q
def KB(d:Addr)(H H':Hp):Prop:=∀b o,H b=some o->b≠d->H' b=some o
theorem KB.refl(d:Addr)(H:Hp):KB d H H:=λ_ _ h _=>h
theorem KB.trans{d:Addr}{H H1 H2:Hp}(a:KB d H H1)(b:KB d H1 H2):KB d H H2:=λc o h n=>b c o (a c o h n) n
theorem KB.write{d:Addr}{H:Hp}{o:HO}:KB d H (upd H d o):=λb o h n=>by rw[ao n];exact h
theorem Same.kb{d:Addr}{H H':Hp}(s:Same H H'):KB d H H':=λb o h _=>s b o h
theorem Same.new{H:Hp}{p:Addr}{o:HO}(h:H p=none):Same H (upd H p o):=λb u e=>by rw[ao (ak e h)];exact e
theorem Same.kbn{d:Addr}{H H1 H2:Hp}(s:Same H H1)(h:H d=none)(k:KB d H1 H2):Same H H2:=λb o e=>k b o (s b o e) (ak e h)
theorem Same.qF{K:AD}{H H':Hp}{a:Addr}{xs:List V}(e:Same H H')(h:aZ K H a xs):aZ K H' a xs:=by
 rcases h with(h | ⟨o,h⟩) | h
 ·exact .inl (.inl (e _ _ h))
 ·exact .inl (.inr ⟨o,e _ _ h⟩)
 ·exact .inr h
def aW(H H':Hp):Prop:=∀b xs,H b=some (.tup xs)->H' b=some (.tup xs)
theorem aW.trans{H H1 H2:Hp}(a:aW H H1)(b:aW H1 H2):aW H H2:=λc o h=>b c o (a c o h)
theorem Same.kt{H H':Hp}(s:Same H H'):aW H H':=λb xs h=>s b _ h
theorem aW.lst{H:Hp}{d:Addr}{xs:List V}{o:HO}(h:H d=some (.lst xs)):aW H (upd H d o):=λb ys e=>by
 rw[ao (fL e h (λz=>nomatch z))];exact e
theorem aW.kb{d:Addr}{xs:List V}{H H':Hp}(h:H d=some (.lst xs))(k:KB d H H'):aW H H':=λb ys e=>k b _ e (fL e h (λz=>nomatch z))
def bY(H:Hp)(ps:List Addr)(ls:List (List Int)):Prop:=Bv (λp (l:List Int)=>H p=some (.tup (l.map V.int))) ps ls
theorem bY.keep{H H':Hp}{ps:List Addr}{ls:List (List Int)}(t:bY H ps ls)(k:aW H H'):bY H' ps ls:=Paired.mP t λ_ _ h=>k _ _ h
theorem bY.get{H:Hp}:∀{ps:List Addr} {ls:List (List Int)} {i:Nat} {p:Addr},bY H ps ls->ps[i]? =some p->∃l,ls[i]? =some l/\H p=some (.tup (l.map V.int))
 | _,_,_,_,.nil,e=>by simp at e
 | _,_,0,_,.cons r _,e=>by simp at e;subst e;exact⟨_,rfl,r⟩
 | _,_,i+1,p,.cons _ t,e=>by
  obtain⟨u,h1,h2⟩:=bY.get (i:=i) (p:=p) t (by simpa using e)
  exact⟨u,by simpa using h1,h2⟩
theorem bA{α β:Type}{F:α->β->Prop}:∀{xs ys:List α} {us ws:List β},Bv F xs us->Bv F ys ws->Bv F (xs++ys) (us++ws)
 | _,_,_,_,.nil,s=>s
 | _,_,_,_,.cons r t,s=>.cons r (bA t s)
end L2
namespace L2
open PySem
theorem bW:BN "len"=some (.builtin "len"):=by decide+kernel
theorem K':BN "abs"=some (.builtin "abs"):=by decide+kernel
theorem La:BN "sum"=some (.builtin "sum"):=by decide+kernel
theorem S4:BN "min"=some (.builtin "min"):=by decide+kernel
theorem bX:BN "isinstance"=some (.builtin "isinstance"):=by decide+kernel
theorem oN:BN "sorted"=some (.builtin "sorted"):=by decide+kernel
theorem S5:BN "all"=some (.builtin "all"):=by decide+kernel
theorem pV:BN "list"=some (.type "list"):=by decide+kernel
theorem bS:BN "tuple"=some (.type "tuple"):=by decide+kernel
theorem Lb:BN "int"=some (.type "int"):=by decide+kernel
theorem tU:BN "bool"=some (.type "bool"):=by decide+kernel
theorem Iz:BN "dict"=some (.type "dict"):=by decide+kernel
theorem S6:BN "set"=some (.type "set"):=by decide+kernel
theorem zY:BN "reversed"=some (.type "reversed"):=by decide+kernel
end L2
namespace L2
open PySem PySem.Spec PyProof.Rows
def ZA(K:AD):List V->Hp->VK->Prop:=λxs H Q=>∃x n,xs=[x]/\SA K x H n/\Q (.int n) H
def ZC(K:AD):List V->Hp->VK->Prop:=λxs H Q=>∃(a:Addr) (ns:List Int),xs=[.ref a]/\bz K H a (ns.map V.int)/\Q (.int ns.sum) H
def ZD(K:AD):List V->Hp->VK->Prop:=λxs H Q=>∃(x:V) (t:Value) (T:String) (b:Bool),xs=[x,.ty T]/\gs K H x t/\A5 K t (.type T)=some b/\Q (.bl b) H
section
variable{X:Cx}
theorem bu(K:AD)(hK:X.K=K:=by rfl):cS X (.builtin "len") (ZA K):=by subst hK;exact Nv
theorem vb(K:AD)(hc:X.calm=true:=by rfl)(hK:X.K=K:=by rfl):cS X (.builtin "sum") (ZC K):=by subst hK;exact K9 hc
theorem dq(K:AD)(hK:X.K=K:=by rfl):cS X (.builtin "isinstance") (ZD K):=by subst hK;exact zX
theorem cP(K:AD)(hK:X.K=K:=by rfl):Iu X (SH K):=by subst hK;exact Q0
theorem ax(K:AD)(hK:X.K=K:=by rfl):Iu X (SJ K):=by subst hK;exact SK
theorem xQ(K:AD)(hK:X.K=K:=by rfl):Iq X (SM K):=by subst hK;exact Q3
theorem mY(K:AD)(hK:X.K=K:=by rfl):dm X (CU .Add) (Py K):=by subst hK;exact Q8
theorem xR(K:AD)(hK:X.K=K:=by rfl):dm X (Bt .In) (XQ K false):=by subst hK;exact K0
def S7(_ j:Int):Prop:=0<j
theorem cpos{i j:Int}(h:0<j):S7 i j:=h
theorem dQ:dm X (CU .Mod) (rI S7 λi j=>.int (i % j)):=Sv
end
end L2
namespace L2
theorem NH{t u:TS}{D:Ends}{σ:St}{H:Hp}(Pv:St->Hp->Prop)(h1:∀σ H,Pv σ H->u D σ H)(h2:(∀σ H,Pv σ H->u D σ H)->t {D with nx:=u D} σ H):lJ t u D σ H:=h2 h1
end L2
namespace L2
open PySem PySem.Spec PyProof.Rows
inductive Dt where
 | non | bl (b:Bool) | int (i:Int) | str (x:Str) | tup (xs:List Dt) | lst (xs:List Dt)
mutual
def Dt.beq:Dt->Dt->Bool
 | .non,.non=>true
 | .bl a,.bl b=>a == b
 | .bl a,.int b=>(if a then 1 else 0) == b
 | .int a,.bl b=>a == (if b then 1 else 0)
 | .int a,.int b=>a == b
 | .str a,.str b=>a == b
 | .tup xs,.tup ys=>Dt.fk xs ys
 | .lst xs,.lst ys=>Dt.fk xs ys
 | _,_=>false
def Dt.fk:List Dt->List Dt->Bool
 | [],[]=>true
 | x::xs,y::ys=>x.beq y&&Dt.fk xs ys
 | _,_=>false
end
mutual
def Dt.dep:Dt->Nat
 | .tup xs=>Dt.deps xs+1
 | .lst xs=>Dt.deps xs+1
 | _=>0
def Dt.deps:List Dt->Nat
 | []=>0
 | x::xs=>max x.dep (Dt.deps xs)
end
mutual
def aq(K:AD)(H:Hp):V->Dt->Prop
 | x,.non=>x=.non
 | x,.bl b=>x=.bl b
 | x,.int i=>x=.int i
 | x,.str z=>x=.str z
 | x,.tup ds=>∃a xs,x=.ref a/\aZ K H a xs/\aF K H xs ds
 | x,.lst ds=>∃a xs,x=.ref a/\bz K H a xs/\aF K H xs ds
def aF(K:AD)(H:Hp):List V->List Dt->Prop
 | [],[]=>True
 | x::xs,d::ds=>aq K H x d/\aF K H xs ds
 | _,_=>False
end
theorem Dt.beq_refl(d:Dt):d.beq d=true:=by
 induction d using Dt.rec (motive_2:=λxs=>Dt.fk xs xs=true) with
 | non=>simp[Dt.beq]
 | bl b=>simp[Dt.beq]
 | int b=>simp[Dt.beq]
 | str b=>simp[Dt.beq]
 | tup xs ih=>simp[Dt.beq,ih]
 | lst xs ih=>simp[Dt.beq,ih]
 | nil=>simp[Dt.fk]
 | cons x xs h1 h2=>simp[Dt.fk,h1,h2]
theorem aF.length{K:AD}{H:Hp}:∀{xs:List V} {ds:List Dt},aF K H xs ds->xs.length=ds.length
 | [],[],_=>rfl
 | [],_::_,h=>by simp[aF] at h
 | _::_,[],h=>by simp[aF] at h
 | x::xs,d::ds,h=>by
  rw[aF] at h
  rw[A4,A4,aF.length h.2]
theorem aF.get{K:AD}{H:Hp}:∀{xs:List V} {ds:List Dt} {i:Nat} {x:V},aF K H xs ds->xs[i]? =some x->∃d,ds[i]? =some d/\aq K H x d
 | [],_,_,_,_,e=>by simp at e
 | _::_,[],_,_,h,_=>by simp[aF] at h
 | x::xs,d::ds,0,y,h,e=>by
  rw[aF] at h
  simp at e;subst e
  exact⟨d,rfl,h.1⟩
 | x::xs,d::ds,i+1,y,h,e=>by
  rw[aF] at h
  obtain⟨d',h1,h2⟩:=aF.get (i:=i) (x:=y) h.2 (by simpa using e)
  exact⟨d',by simpa using h1,h2⟩
theorem Dt.j8{d:Dt}:∀{ds:List Dt},d∈ds->d.dep<=Dt.deps ds
 | [],h=>by cases h
 | x::xs,h=>by
  rw[Dt.deps]
  rcases Ac.mp h with rfl | h
  ·exact Nat.le_max_left ..
  ·exact BB (Dt.j8 h) (Nat.le_max_right ..)
def xn(xs ys:List Dt)(j:Nat):Bool:=match xs[j]?,ys[j]? with
 | some x,some y=>x.beq y
 | _,_=>false
theorem tV(n:Nat)(e:Nat->Bool):(BM (n+1)).all e=(e 0&&(BM n).all λj=>e (j+1)):=by
 rw[Fw,Eb,Fx];rfl
theorem j9:∀(xs ys:List Dt),xs.length=ys.length->(BM xs.length).all (xn xs ys)=Dt.fk xs ys
 | [],[],_=>by simp[Dt.fk]
 | x::xs,y::ys,h=>by
  have h':xs.length=ys.length:=by simpa using h
  rw[A4,tV,Dt.fk,<-j9 xs ys h']
  rfl
theorem ka:∀(xs ys:List Dt),xs.length≠ys.length->Dt.fk xs ys=false
 | [],[],h=>absurd rfl h
 | [],_::_,_=>by simp[Dt.fk]
 | _::_,[],_=>by simp[Dt.fk]
 | x::xs,y::ys,h=>by
  have h':xs.length≠ys.length:=λz=>h (by simp[z])
  rw[Dt.fk,ka xs ys h',EE]
section
variable{X:Cx}{pins:List (Addr×Obj)}{σ:St}{H:Hp}{s:AI}
theorem lY{a:Addr}{xs ys:List V}(I:Inv X pins σ H s)(h1:bz X.K H a xs)(h2:aZ X.K H a ys):False:=by
 obtain⟨its,_,p,_⟩:=I.list h1
 obtain⟨its2,_,q,_⟩:=I.tuple h2
 exact SeqAt.ne_of_list_tuple p.isList (show s.heap.IsTuple a its2.toArray from q) rfl
theorem tW(I:Inv X pins σ H s)(d:Dt):∀(x:V) (d':Dt),aq X.K H x d->aq X.K H x d'->d=d':=by
 induction d using Dt.rec (motive_2:=λds=>∀(xs:List V) (ds':List Dt),aF X.K H xs ds->aF X.K H xs ds'->ds=ds') with
 | non=>intro x d' h h';cases d'<;>simp_all [aq]
 | bl b=>intro x d' h h';cases d'<;>simp_all [aq]
 | int b=>intro x d' h h';cases d'<;>simp_all [aq]
 | str b=>intro x d' h h';cases d'<;>simp_all [aq]
 | tup ds ih=>
  intro x d' h h'
  rw[aq] at h
  obtain⟨a,xs,rfl,hq,hd⟩:=h
  cases d' with
  | tup ds'=>
   rw[aq] at h'
   obtain⟨a',xs',e,hq',hd'⟩:=h'
   cases e
   rw[I.jc hq' hq] at hd'
   rw[ih xs ds' hd hd']
  | lst ds'=>
   rw[aq] at h'
   obtain⟨a',xs',e,hq',hd'⟩:=h'
   cases e
   exact(lY I hq' hq).elim
  | _=>simp[aq] at h'
 | lst ds ih=>
  intro x d' h h'
  rw[aq] at h
  obtain⟨a,xs,rfl,hq,hd⟩:=h
  cases d' with
  | lst ds'=>
   rw[aq] at h'
   obtain⟨a',xs',e,hq',hd'⟩:=h'
   cases e
   rw[I.iI hq' hq] at hd'
   rw[ih xs ds' hd hd']
  | tup ds'=>
   rw[aq] at h'
   obtain⟨a',xs',e,hq',hd'⟩:=h'
   cases e
   exact(lY I hq hq').elim
  | _=>simp[aq] at h'
 | nil=>
  rename_i xs ds' h h'
  cases xs with
  | nil=>cases ds' with
   | nil=>rfl
   | cons _ _=>simp[aF] at h'
  | cons _ _=>simp[aF] at h
 | cons d ds h1 h2=>
  rename_i xs ds' h h'
  cases xs with
  | nil=>simp[aF] at h
  | cons x xs=>cases ds' with
   | nil=>simp[aF] at h'
   | cons d' ds'=>
    rw[aF] at h h'
    rw[h1 x d' h.1 h'.1,h2 xs ds' h.2 h'.2]
theorem mZ{A:A9}{xs ys:List V}{ds ds':List Dt}{its its2:List Value}(r1:Vals xs its)(r2:Vals ys its2)(h1:aF X.K H xs ds)(h2:aF X.K H ys ds')
  (ih:∀d∈ds,∀(d':Dt) (x y:V) (u v:Value),aq X.K H x d->aq X.K H y d'->RelV x u->RelV y v->CW A s u v (d.beq d')):
  ∀j (a:j<its.toArray.size) (b:j<its2.toArray.size),CW A s its.toArray[j] its2.toArray[j] (xn ds ds' j):=λj a b=>by
 have a':j<its.length:=by simpa using a
 have b':j<its2.length:=by simpa using b
 have la:=r1.length
 have lb:=r2.length
 have ex:xs[j]? =some (xs[j]'(by omega)):=As (by omega)
 have ey:ys[j]? =some (ys[j]'(by omega)):=As (by omega)
 obtain⟨u,eu,ru⟩:=r1.get ex
 obtain⟨v,ev,rv⟩:=r2.get ey
 obtain⟨d,ed,hd⟩:=h1.get ex
 obtain⟨d',ed',hd'⟩:=h2.get ey
 have e1:its.toArray[j]=u:=by
  rw[As a'] at eu
  simpa using AS eu
 have e2:its2.toArray[j]=v:=by
  rw[As b'] at ev
  simpa using AS ev
 rw[e1,e2]
 have e3:xn ds ds' j=d.beq d':=by unfold xn;rw[ed,ed']
 rw[e3]
 exact ih d (AL ed) d' _ _ u v hd hd' ru rv
theorem NI{A:A9}{a b:Addr}{xs ys:List V}{ds ds':List Dt}(I:Inv X pins σ H s)(q1:bz X.K H a xs)(q2:bz X.K H b ys)(h1:aF X.K H xs ds)(h2:aF X.K H ys ds')(hu:A.units<cLine)
  (ih:∀d∈ds,∀(d':Dt) (x y:V) (u v:Value),aq X.K H x d->aq X.K H y d'->RelV x u->RelV y v->CW A.in1 s u v (d.beq d')):Hh A s (.ref a) (.ref b) (Dt.fk ds ds'):=by
 obtain⟨its,r1,p1,_⟩:=I.list q1
 obtain⟨its2,r2,p2,_⟩:=I.list q2
 have l1:=r1.length
 have l2:=r2.length
 have l3:=h1.length
 have l4:=h2.length
 by_cases hl:ds.length=ds'.length
 ·have:=SeqAt.RcAt.lists p1.isList p2.isList (by simp;omega) hu (mZ r1 r2 h1 h2 ih)
  rw[show its.toArray.size=ds.length by simp;omega,j9 ds ds' hl] at this
  exact this
 ·rw[ka ds ds' hl]
  exact SeqAt.RcAt.lists_lengths p1.isList p2.isList (by simp;omega) hu
theorem Lc{A:A9}{a b:Addr}{xs ys:List V}{ds ds':List Dt}(I:Inv X pins σ H s)(q1:aZ X.K H a xs)(q2:aZ X.K H b ys)(h1:aF X.K H xs ds)(h2:aF X.K H ys ds')(hu:A.units<cLine)
  (ih:∀d∈ds,∀(d':Dt) (x y:V) (u v:Value),aq X.K H x d->aq X.K H y d'->RelV x u->RelV y v->CW A.in1 s u v (d.beq d')):Hh A s (.ref a) (.ref b) (Dt.fk ds ds'):=by
 obtain⟨its,r1,p1,_⟩:=I.tuple q1
 obtain⟨its2,r2,p2,_⟩:=I.tuple q2
 have l1:=r1.length
 have l2:=r2.length
 have l3:=h1.length
 have l4:=h2.length
 have:=SeqAt.RcAt.tuples (show s.heap.IsTuple a its.toArray from p1) (show s.heap.IsTuple b its2.toArray from p2) hu (mZ r1 r2 h1 h2 ih)
 by_cases hl:ds.length=ds'.length
 ·rw[show min its.toArray.size its2.toArray.size=ds.length by simp;omega,j9 ds ds' hl,show(its.toArray.size == its2.toArray.size)=true by simp;omega,Bool.and_true] at this
  exact this
 ·rw[show(its.toArray.size == its2.toArray.size)=false by simp;omega,EE] at this
  rw[ka ds ds' hl]
  exact this
theorem xS(I:Inv X pins σ H s)(d:Dt):∀(A:A9) (d':Dt) (x y:V) (u v:Value),A.units+d.dep<cLine->aq X.K H x d->aq X.K H y d'->RelV x u->RelV y v->CW A s u v (d.beq d'):=by
 have flat:∀{A:A9} {d d':Dt} {x y:V} {u v:Value},ip x=true->ip y=true->lV x y=d.beq d'->RelV x u->RelV y v->CW A s u v (d.beq d'):=λfx fy e ru rv=>e▸KZ ru rv fx fy
 have IA:∀{a:Addr} {xs:List V},bz X.K H a xs->∃its:Array Value,s.heap.IsList a its:=λq=>let ⟨its,_,p,_⟩:=I.list q;⟨_,p.isList⟩
 have IB:∀{a:Addr} {xs:List V},aZ X.K H a xs->∃its:Array Value,s.heap.IsTuple a its:=λq=>let ⟨its,_,p,_⟩:=I.tuple q;⟨_,p⟩
 have refs:∀{A:A9} {a b:Addr} {d d':Dt},aq X.K H (.ref a) d->aq X.K H (.ref b) d'->Hh A s (.ref a) (.ref b) (d.beq d')->CW A s (.ref a) (.ref b) (d.beq d'):=by
  intro A a b d d' h h' r
  by_cases e:a=b
  ·subst e
   rw[<-tW I d _ _ h h',Dt.beq_refl]
   exact He _
  ·exact SeqAt.EqAt.of_refs e r
 induction d using Dt.rec (motive_2:=λds=>∀d∈ds,∀(A:A9) (d':Dt) (x y:V) (u v:Value),A.units+d.dep<cLine->aq X.K H x d->aq X.K H y d'->RelV x u->RelV y v->CW A s u v (d.beq d')) with
 | non=>
  intro A d' x y u v hu h h' ru rv
  rw[aq] at h
  subst h
  have hu':A.units<cLine:=by omega
  cases d' with
  | tup ds'=>
   rw[aq] at h';obtain⟨b,ys,rfl,q,_⟩:=h'
   cases ru;cases rv
   obtain⟨its,p⟩:=IB q
   exact SeqAt.EqAt.none_tuple p hu'
  | lst ds'=>
   rw[aq] at h';obtain⟨b,ys,rfl,q,_⟩:=h'
   cases ru;cases rv
   obtain⟨its,p⟩:=IA q
   exact SeqAt.EqAt.none_list p hu'
  | _=>rw[aq] at h';subst h';exact flat rfl rfl (by simp[Dt.beq,lV]) ru rv
 | bl b0=>
  intro A d' x y u v hu h h' ru rv
  rw[aq] at h
  subst h
  have hu':A.units<cLine:=by omega
  cases d' with
  | tup ds'=>
   rw[aq] at h';obtain⟨b,ys,rfl,q,_⟩:=h'
   cases ru;cases rv
   obtain⟨its,p⟩:=IB q
   exact SeqAt.EqAt.bool_tuple _ p hu'
  | lst ds'=>
   rw[aq] at h';obtain⟨b,ys,rfl,q,_⟩:=h'
   cases ru;cases rv
   obtain⟨its,p⟩:=IA q
   exact SeqAt.EqAt.bool_list _ p hu'
  | _=>rw[aq] at h';subst h';exact flat rfl rfl (by simp[Dt.beq,lV]) ru rv
 | int i0=>
  intro A d' x y u v hu h h' ru rv
  rw[aq] at h
  subst h
  have hu':A.units<cLine:=by omega
  cases d' with
  | tup ds'=>
   rw[aq] at h';obtain⟨b,ys,rfl,q,_⟩:=h'
   obtain⟨t,rfl⟩:=ru;cases rv
   obtain⟨its,p⟩:=IB q
   exact SeqAt.EqAt.int_tuple _ _ p hu'
  | lst ds'=>
   rw[aq] at h';obtain⟨b,ys,rfl,q,_⟩:=h'
   obtain⟨t,rfl⟩:=ru;cases rv
   obtain⟨its,p⟩:=IA q
   exact SeqAt.EqAt.int_list _ _ p hu'
  | _=>rw[aq] at h';subst h';exact flat rfl rfl (by simp[Dt.beq,lV]) ru rv
 | str z0=>
  intro A d' x y u v hu h h' ru rv
  rw[aq] at h
  subst h
  have hu':A.units<cLine:=by omega
  cases d' with
  | tup ds'=>
   rw[aq] at h';obtain⟨b,ys,rfl,q,_⟩:=h'
   obtain⟨t,rfl⟩:=ru;cases rv
   obtain⟨its,p⟩:=IB q
   exact SeqAt.EqAt.str_tuple _ _ p hu'
  | lst ds'=>
   rw[aq] at h';obtain⟨b,ys,rfl,q,_⟩:=h'
   obtain⟨t,rfl⟩:=ru;cases rv
   obtain⟨its,p⟩:=IA q
   exact SeqAt.EqAt.str_list _ _ p hu'
  | _=>rw[aq] at h';subst h';exact flat rfl rfl (by simp[Dt.beq,lV]) ru rv
 | tup ds ih=>
  intro A d' x y u v hu h h' ru rv
  have hD:=h
  have hD':=h'
  rw[aq] at h
  obtain⟨a,xs,rfl,q,hd⟩:=h
  cases ru
  obtain⟨its,p⟩:=IB q
  have hu':A.units<cLine:=by omega
  cases d' with
  | non=>rw[aq] at h';subst h';cases rv;exact SeqAt.EqAt.tuple_none p hu'
  | bl b=>rw[aq] at h';subst h';cases rv;exact SeqAt.EqAt.tuple_bool _ p hu'
  | int b=>rw[aq] at h';subst h';obtain⟨t,rfl⟩:=rv;exact SeqAt.EqAt.tuple_int _ _ p hu'
  | str b=>rw[aq] at h';subst h';obtain⟨t,rfl⟩:=rv;exact SeqAt.EqAt.tuple_str _ _ p hu'
  | lst ds'=>
   rw[aq] at h';obtain⟨b,ys,rfl,q',_⟩:=h'
   cases rv
   obtain⟨its2,p2⟩:=IA q'
   exact SeqAt.EqAt.tuple_list p p2 hu'
  | tup ds'=>
   rw[aq] at h';obtain⟨b,ys,rfl,q',hd'⟩:=h'
   cases rv
   refine refs hD hD' ?_
   have:=Lc (A:=A) I q q' hd hd' hu' λd hm d' x y u v h1 h2 r1 r2=>ih d hm A.in1 d' x y u v (by
    have:=Dt.j8 hm
    rw[Dt.dep] at hu
    show A.units+1+d.dep<cLine
    omega) h1 h2 r1 r2
   simpa[Dt.beq] using this
 | lst ds ih=>
  intro A d' x y u v hu h h' ru rv
  have hD:=h
  have hD':=h'
  rw[aq] at h
  obtain⟨a,xs,rfl,q,hd⟩:=h
  cases ru
  obtain⟨its,p⟩:=IA q
  have hu':A.units<cLine:=by omega
  cases d' with
  | non=>rw[aq] at h';subst h';cases rv;exact SeqAt.EqAt.list_none p hu'
  | bl b=>rw[aq] at h';subst h';cases rv;exact SeqAt.EqAt.list_bool _ p hu'
  | int b=>rw[aq] at h';subst h';obtain⟨t,rfl⟩:=rv;exact SeqAt.EqAt.list_int _ _ p hu'
  | str b=>rw[aq] at h';subst h';obtain⟨t,rfl⟩:=rv;exact SeqAt.EqAt.list_str _ _ p hu'
  | tup ds'=>
   rw[aq] at h';obtain⟨b,ys,rfl,q',_⟩:=h'
   cases rv
   obtain⟨its2,p2⟩:=IB q'
   exact SeqAt.EqAt.list_tuple p p2 hu'
  | lst ds'=>
   rw[aq] at h';obtain⟨b,ys,rfl,q',hd'⟩:=h'
   cases rv
   refine refs hD hD' ?_
   have:=NI (A:=A) I q q' hd hd' hu' λd hm d' x y u v h1 h2 r1 r2=>ih d hm A.in1 d' x y u v (by
    have:=Dt.j8 hm
    rw[Dt.dep] at hu
    show A.units+1+d.dep<cLine
    omega) h1 h2 r1 r2
   simpa[Dt.beq] using this
 | nil=>
  rename_i d hd A d' x y u v a1 a2 a3 a4 a5
  cases hd
 | cons d ds h1 h2=>
  rename_i d0 hd A d' x y u v a1 a2 a3 a4 a5
  rcases Ac.mp hd with e | hd
  ·subst e;exact h1 A d' x y u v a1 a2 a3 a4 a5
  ·exact h2 d0 hd A d' x y u v a1 a2 a3 a4 a5
def Dt.S8:Dt->Bool
 | .tup _=>true
 | .lst _=>true
 | _=>false
def ZE(K:AD)(neg:Bool):R2:=λx y H Q=>∃d d':Dt,aq K H x d/\aq K H y d'/\d.S8=true/\d'.S8=true/\d.dep<=40/\Q (.bl (if neg then !d.beq d' else d.beq d')) H
theorem S9(K:AD)(hu:X.A.units+64<cLine)(hK:X.K=K:=by rfl):dm X (Bt .NotEq) (λx y H Q=>ZE K true x y H Q/\∃d d':Dt,aq K H x d/\aq K H y d'/\((∃ds ds',d=.tup ds/\d'=.tup ds')∨∃ds ds',d=.lst ds/\d'=.lst ds')):=by
 subst hK
 intro pins s σ H x y v u Q I rx ry h
 obtain⟨⟨d,d',h,h',sq,sq',hd,q⟩,e,e',g,g',hk⟩:=h
 have e1:=tW I d x e h g
 have e2:=tW I d' y e' h' g'
 subst e1 e2
 have hA:∀e:Dt,e.dep<=40->X.A.in1.units+e.dep<cLine:=λe he=>by show X.A.units+1+e.dep<cLine;omega
 have hu':X.A.units<cLine:=by omega
 rcases hk with⟨ds,ds',rfl,rfl⟩ | ⟨ds,ds',rfl,rfl⟩
 ·rw[aq] at h h'
  obtain⟨a,xs,rfl,q1,h1⟩:=h
  obtain⟨b,ys,rfl,q2,h2⟩:=h'
  cases rx
  cases ry
  have ih:∀d∈ds,∀(d':Dt) (x y:V) (u v:Value),aq X.K H x d->aq X.K H y d'->RelV x u->RelV y v->CW X.A.in1 s u v (d.beq d'):=λd hm d' x y u v h1 h2 r1 r2=>
   xS I d X.A.in1 d' x y u v (hA d (by have:=Dt.j8 hm;rw[Dt.dep] at hd;omega)) h1 h2 r1 r2
  obtain⟨its,r1,p1,_⟩:=I.tuple q1
  obtain⟨its2,r2,p2,_⟩:=I.tuple q2
  have l1:=r1.length
  have l2:=r2.length
  have l3:=h1.length
  have l4:=h2.length
  have z:=SeqAt.RcNeAt.tuples (show s.heap.IsTuple a its.toArray from p1) (show s.heap.IsTuple b its2.toArray from p2) hu' (mZ r1 r2 h1 h2 ih)
  have fin:SeqAt.RcNeAt X.A s (.ref a) (.ref b) (!Dt.fk ds ds'):=by
   by_cases hl:ds.length=ds'.length
   ·rw[show min its.toArray.size its2.toArray.size=ds.length by simp;omega,j9 ds ds' hl,show(its.toArray.size == its2.toArray.size)=true by simp;omega,Bool.and_true] at z
    exact z
   ·rw[show(its.toArray.size == its2.toArray.size)=false by simp;omega,EE] at z
    rw[ka ds ds' hl]
    exact z
  exact fin _ _ _ _ ⟨.bl _,H,I,rfl,by simpa[Dt.beq] using q⟩
 ·rw[aq] at h h'
  obtain⟨a,xs,rfl,q1,h1⟩:=h
  obtain⟨b,ys,rfl,q2,h2⟩:=h'
  cases rx
  cases ry
  have ih:∀d∈ds,∀(d':Dt) (x y:V) (u v:Value),aq X.K H x d->aq X.K H y d'->RelV x u->RelV y v->CW X.A.in1 s u v (d.beq d'):=λd hm d' x y u v h1 h2 r1 r2=>
   xS I d X.A.in1 d' x y u v (hA d (by have:=Dt.j8 hm;rw[Dt.dep] at hd;omega)) h1 h2 r1 r2
  obtain⟨its,r1,p1,_⟩:=I.list q1
  obtain⟨its2,r2,p2,_⟩:=I.list q2
  have l1:=r1.length
  have l2:=r2.length
  have l3:=h1.length
  have l4:=h2.length
  have fin:SeqAt.RcNeAt X.A s (.ref a) (.ref b) (!Dt.fk ds ds'):=by
   by_cases hl:ds.length=ds'.length
   ·have z:=SeqAt.RcNeAt.lists p1.isList p2.isList (by simp;omega) hu' (mZ r1 r2 h1 h2 ih)
    rw[show its.toArray.size=ds.length by simp;omega,j9 ds ds' hl] at z
    exact z
   ·rw[ka ds ds' hl]
    exact SeqAt.RcNeAt.lists_lengths p1.isList p2.isList (by simp;omega) hu'
  exact fin _ _ _ _ ⟨.bl _,H,I,rfl,by simpa[Dt.beq] using q⟩
end
theorem oO{K:AD}{H:Hp}:∀(ns:List Int),aF K H (ns.map V.int) (ns.map Dt.int)
 | []=>by simp[aF]
 | n::ns=>by rw[Ap,Ap,aF];exact⟨by rw[aq],oO ns⟩
theorem vd:∀(ns:List Int),Dt.deps (ns.map Dt.int)=0
 | []=>by simp[Dt.deps]
 | n::ns=>by rw[Ap,Dt.deps,vd ns];simp[Dt.dep]
section
variable{X:Cx}
def S'(K:AD):List V->Hp->VK->Prop:=λxs H Q=>∃(p:Addr) (ys:List V),xs=[.ref p]/\((bz K H p ys/\∀l,H l=none->Q (.ref l) (upd H l (.tup ys)))∨(aZ K H p ys/\Q (.ref p) H))
theorem bG(K:AD)(hK:X.K=K:=by rfl):cS X (.type "tuple") (S' K):=by subst hK;exact vX
end
end L2
namespace L2
open PySem
theorem iO{ns:List Int}{i:Nat}{x:V}(h:(ns.map V.int)[i]? =some x):∃f,x=.int f/\ns[i]? =some f:=by
 rw[AW] at h
 cases e:ns[i]? with
 | none=>rw[e] at h;cases h
 | some f=>rw[e] at h;exact⟨f,(AS h).symm,rfl⟩
end L2
namespace L2
open PySem PySem.Spec PyProof.Rows
theorem m_{ys:List Str}:∀{us:List Value},Vals (ys.map V.str) us->Cm us ys:=by
 induction ys with
 | nil=>intro us r;cases r;exact .nil
 | cons y ys ih=>
  intro us r
  rw[Ap] at r
  cases r with
  | cons a b=>
   obtain⟨t,rfl⟩:=a
   exact .cons y t (ih b)
theorem kN:∀{us:List Value} {ys:List Str},Cm us ys->Vals (ys.map V.str) us
 | _,_,.nil=>.nil
 | _,_,.cons y t r=>.cons ⟨t,rfl⟩ (kN r)
theorem NJ(sep:Str)(ys:List Str)(h:(ys.map (·.length)).sum+ys.length*sep.length<=16777216):(Txt.join sep ys).length<=sizeLine:=by
 have hok:=joinOk_of h
 unfold JoinOk at hok
 rw[Bool.not_eq_true'] at hok
 have e:ys=(ys.map λy=>(y,(0:Tok))).map (·.1):=by rw[EG];exact(List.map_id ys).symm
 rw[e] at hok ⊢
 exact joinFit_length hok
section
variable{X:Cx}
def rJoin(K:AD):V->List V->Hp->VK->Prop:=λx vs H Q=>∃(sep:Str) (a:Addr) (ys:List Str),x=.str sep/\vs=[.ref a]/\bz K H a (ys.map V.str)/\(ys.map (·.length)).sum+ys.length*sep.length<=16777216/\∀z:Str,z.length<=sizeLine->z=Txt.join sep ys->Q (.str z) H
theorem NK(K:AD)(hK:X.K=K:=by rfl):xE X "str.join" (rJoin K):=by
 subst hK
 intro pins s σ H x vs v us Q I rx rv h
 obtain⟨sep,a,ys,rfl,rfl,hq,hz,q⟩:=h
 obtain⟨t,rfl⟩:=rx
 obtain⟨u,rfl,ru⟩:=rv.one
 cases ru
 obtain⟨its,r,p,_⟩:=I.list hq
 exact join_list p.isList (show Cm its.toArray.toList ys from m_ r) hz λt' k=>⟨.str _,H,I.tok k,⟨t',rfl⟩,q _ (NJ sep ys hz) rfl⟩
def Ta(K:AD):List V->Hp->VK->Prop:=λxs H Q=>∃(a:Addr) (ss:List Str),xs=[.ref a]/\bz K H a (ss.map V.str)/\ss.length<64/\
 ∀(p:Addr) (ss':List Str),H p=none->ss'.Perm ss->Bm ss'=true->Q (.ref p) (upd H p (.lst (ss'.map V.str)))
theorem zZ(K:AD)(hK:X.K=K:=by rfl):cS X (.builtin "sorted") (Ta K):=by
 subst hK
 intro pins s σ H xs us Q I r h
 obtain⟨a,ss,rfl,hq,hl,q⟩:=h
 obtain⟨u,rfl,ru⟩:=vals1 r
 cases ru
 obtain⟨its,rv,p,hz⟩:=I.list hq
 have hlen:=rv.length
 rw[AB] at hlen
 refine sorted_strs p.isList (m_ rv) (by omega) λout ss' a1 a2 a3=>?_
 obtain⟨e,he⟩:=sortedAll_at s.heap its out
 have hp:s.heap.objs.size<=s.heap.objs.size+1:=B' _
 refine⟨.ref (s.heap.objs.size+1),upd H (s.heap.objs.size+1) (.lst (ss'.map V.str)),?_,rfl,q _ ss' (I.hok.fresh hp) a2 a3⟩
 refine I.laid (t':=s.toks) (h':=sortedAll s.heap its out) (λ_ _=>sortedAll_old) hp ⟨?_,out.toList,e,kN a1,?_⟩
 ·rw[AB,a2.length_eq]
  rw[AB] at hz
  exact hz
 ·rw[he]
  first
   | done
   | rfl
def ZF:V->Option Int->Option Int->Hp->VK->Prop:=λx lo hi H Q=>∃z:Str,x=.str z/\z.length<=sizeLine/\Q (.str (Txt.slice z lo hi)) H
theorem qr{v:Value}{o:Option Int}(p:FT v o):∃l:Option (Int×Tok),v=partValue l/\l.map (·.1)=o:=by
 cases p with
 | none=>exact⟨none,rfl,rfl⟩
 | int i t=>exact⟨some (i,t),rfl,rfl⟩
theorem Tb:Iq X ZF:=by
 intro pins s σ H x v vl vu lo hi sl Q I rx hs pl pu h
 obtain⟨z,rfl,hz,q⟩:=h
 obtain⟨t,rfl⟩:=rx
 obtain⟨l,rfl,hl⟩:=qr pl
 obtain⟨u,rfl,hu⟩:=qr pu
 subst hl hu
 obtain⟨o,ho,hc,hd⟩:=hs
 refine⟨"str",_,FX.lookup,E5 _ _ _,wpAny_getItem_str_slice (l:=l) (u:=u) (st:=none) ⟨o,ho,hc,hd⟩ rfl ?_⟩
 exact post_val_or_str ⟨BB (Txt.slice_le z _ _) hz,λt' k=>⟨.str _,H,I.tok k,⟨t',rfl⟩,q⟩⟩
structure lZ (K:AD)(P:Gj)(a:Addr)(tab:List (Str×Option V)):Prop where
 ex:∃(es:Array DictEntry) (n:Nat),K.lookup a=some ⟨.type "dict",none,.dict es n, #[]⟩/\GG P es.toList/\∀x r,(x,r)∈tab->gq r (findBy G9 es x)
 lo:(a == Bq)=false
def Q9(tab:List (Str×Option V))(ty tx:TE):TE:=λσ H Q=>ty σ H λy H1=>tx σ H1 λz H2=>∃x r,y=.str x/\(x,r)∈tab/\Q (r.getD z) H2
theorem ve{x:Str}{p apos cpos:Pos}{e f:Expr}{ty tx:TE}{a:Addr}{tab:List (Str×Option V)}(D:lZ X.K X.w.params a tab)(hg:Gl X x)(hm:X.mg x=some (.ref a))(he:PE X e ty)(hf:PE X f tx)
  (m:M2 X (.Name x p) "get" apos e f cpos:=by exact⟨rfl,rfl,rfl,rfl⟩) (hdb:(x == ("__debug__":Str))=false:=by decide):PE X (.Call (.Attribute (.Name x p) "get" apos) [e,f] [] cpos) (Q9 tab ty tx):=by
 intro pins s σ H Q I h
 obtain⟨es,n,hl,hk,ht⟩:=D.ex
 refine wpAny_Call_method m.base m.few m.line Fg Cc GK (tO I hg hm ?_ hdb)
 have hm0:=PySem.W.mapOf_K (prog:=X.prog) I.gx hl hk
 refine⟨hm0.typeIs,hm0.noDict,?_⟩
 rw[m.trees]
 refine C9 rfl (DT (CV (aM (he pins s σ H _ I h) λiv s2 ⟨y,H2,I2,ry,q2⟩=>
  CV (aM (hf pins s2 σ H2 _ I2 q2) λfv s3 ⟨z,H3,I3,rz,x',r,ey,hmem,q3⟩=>D' ?_))))
 subst ey
 obtain⟨t,rfl⟩:=ry
 have XX:=PySem.W.mapOf_K (prog:=X.prog) I3.gx hl hk
 refine call_meetsIn Cc XX.typeIs EF (D8 _ _ _) (meets_dict_get_default (strKind X.prog X.w) a (HH X.prog X.w x' t) D.lo fv) ⟨_,XX,?_⟩
 refine⟨r.getD z,H3,I3.tok _,?_,q3⟩
 have:=ht x' r hmem
 cases r with
 | none=>
  rw[this.none_of]
  exact rz
 | some v=>
  obtain⟨u,eu,ru⟩:=this.some_of
  rw[eu]
  exact ru
theorem gf{K:AD}{H:Hp}{a:Addr}{xs:List V}{us:List Value}{n:Nat}(h:K.lookup a=some ⟨.type "tuple",none,.seq us.toArray n, #[]⟩)(r:Vals xs us)(hz:xs.length<=sizeLine):aZ K H a xs:=
 .inr ⟨_,us.toArray,n,h,rfl,rfl,by rw[Ai,<-r.length];exact hz,by simpa using r⟩
theorem md(K:AD){es:List Expr}{k:Nat}{t:uQ}{n:Nat}{pos:Pos}(hc:X.calm=true)(h:KN X es t)
  (hn:(ET es X.env).length=n:=by rfl) (hst:(ET es X.env).findIdx? (·.1)=none:=by rfl) (hK:X.K=K:=by rfl):PG X (.Tuple es k pos) (Sq K n t):=by
 subst hK;exact xv hc h hn hst
end
mutual
def Dt.gA:Dt->Bool
 | .lst _=>false
 | .tup xs=>Dt.gW xs
 | _=>true
def Dt.gW:List Dt->Bool
 | []=>true
 | x::xs=>x.gA&&Dt.gW xs
end
def iG(K:AD)(H H':Hp):Prop:=∀a xs,aZ K H a xs->aZ K H' a xs
theorem iG.trans{K:AD}{H H1 H2:Hp}(a:iG K H H1)(b:iG K H1 H2):iG K H H2:=λc o h=>b c o (a c o h)
theorem Same.kts{K:AD}{H H':Hp}(s:Same H H'):iG K H H':=λ_ _ h=>s.qF h
theorem KB.kts{K:AD}{d:Addr}{xs:List V}{H H':Hp}(h:H d=some (.lst xs))(k:KB d H H'):iG K H H':=λa ys e=>by
 rcases e with(e | ⟨o,e⟩) | e
 ·exact .inl (.inl (k _ _ e (fL e h (λz=>nomatch z))))
 ·exact .inl (.inr ⟨o,k _ _ e (fL e h (λz=>nomatch z))⟩)
 ·exact .inr e
theorem fm{K:AD}{H H':Hp}(k:iG K H H')(d:Dt):∀x:V,d.gA=true->aq K H x d->aq K H' x d:=by
 induction d using Dt.rec (motive_2:=λds=>∀xs:List V,Dt.gW ds=true->aF K H xs ds->aF K H' xs ds) with
 | non=>intro x _ h;simpa[aq] using h
 | bl b=>intro x _ h;simpa[aq] using h
 | int b=>intro x _ h;simpa[aq] using h
 | str b=>intro x _ h;simpa[aq] using h
 | tup ds ih=>
  intro x hn h
  rw[aq] at h ⊢
  rw[Dt.gA] at hn
  obtain⟨a,xs,e,q,hd⟩:=h
  exact⟨a,xs,e,k _ _ q,ih xs hn hd⟩
 | lst ds ih=>intro x hn;simp[Dt.gA] at hn
 | nil=>
  rename_i xs hn h
  cases xs with
  | nil=>simp[aF]
  | cons _ _=>simp[aF] at h
 | cons d ds h1 h2=>
  rename_i xs hn h
  rw[Dt.gW,Bg] at hn
  cases xs with
  | nil=>simp[aF] at h
  | cons x xs=>
   rw[aF] at h ⊢
   exact⟨h1 x hn.1 h.1,h2 xs hn.2 h.2⟩
theorem vf{K:AD}{H H':Hp}(k:iG K H H'):∀(ds:List Dt) (xs:List V),Dt.gW ds=true->aF K H xs ds->aF K H' xs ds
 | [],xs,_,h=>by
  cases xs with
  | nil=>simp[aF]
  | cons _ _=>simp[aF] at h
 | d::ds,xs,hn,h=>by
  rw[Dt.gW,Bg] at hn
  cases xs with
  | nil=>simp[aF] at h
  | cons x xs=>
   rw[aF] at h ⊢
   exact⟨fm k d x hn.1 h.1,vf k ds xs hn.2 h.2⟩
theorem tX{K:AD}{H:Hp}{i:Int}:aq K H (.int i) (.int i):=by rw[aq]
theorem tY{K:AD}{H:Hp}{z:Str}:aq K H (.str z) (.str z):=by rw[aq]
theorem pW{K:AD}{H:Hp}{a:Addr}{xs:List V}{ds:List Dt}(h:aZ K H a xs)(d:aF K H xs ds):aq K H (.ref a) (.tup ds):=by rw[aq];exact⟨a,xs,rfl,h,d⟩
theorem pX{K:AD}{H:Hp}{a:Addr}{xs:List V}{ds:List Dt}(h:bz K H a xs)(d:aF K H xs ds):aq K H (.ref a) (.lst ds):=by rw[aq];exact⟨a,xs,rfl,h,d⟩
theorem fR{K:AD}{H:Hp}:aF K H [] []:=by simp[aF]
theorem cX{K:AD}{H:Hp}{x:V}{xs:List V}{d:Dt}{ds:List Dt}(h:aq K H x d)(t:aF K H xs ds):aF K H (x::xs) (d::ds):=by rw[aF];exact⟨h,t⟩
theorem xT{K:AD}{H:Hp}:∀{xs ys:List V} {ds es:List Dt},aF K H xs ds->aF K H ys es->aF K H (xs++ys) (ds++es)
 | [],_,[],_,_,h=>h
 | [],_,_::_,_,h,_=>by simp[aF] at h
 | _::_,_,[],_,h,_=>by simp[aF] at h
 | x::xs,_,d::ds,_,h,g=>by
  rw[aF] at h
  exact cX h.1 (xT h.2 g)
theorem me{ns:List Str}{i:Nat}{x:V}(h:(ns.map V.str)[i]? =some x):∃f,x=.str f/\ns[i]? =some f:=by
 rw[AW] at h
 cases e:ns[i]? with
 | none=>rw[e] at h;cases h
 | some f=>rw[e] at h;exact⟨f,(AS h).symm,rfl⟩
end L2
namespace L2
open PySem
def cm(d e:Addr)(H H':Hp):Prop:=∀b o,H b=some o->b≠d->b≠e->H' b=some o
theorem cm.trans{d e:Addr}{H H1 H2:Hp}(a:cm d e H H1)(b:cm d e H1 H2):cm d e H H2:=λc o h n m=>b c o (a c o h n m) n m
theorem KB.l{d e:Addr}{H H':Hp}(k:KB d H H'):cm d e H H':=λb o h n _=>k b o h n
theorem KB.r{d e:Addr}{H H':Hp}(k:KB e H H'):cm d e H H':=λb o h _ n=>k b o h n
theorem Same.kb2{d e:Addr}{H H':Hp}(s:Same H H'):cm d e H H':=λb o h _ _=>s b o h
theorem aR.none{P:Ak}{w:World}{K:AD}{mg:Str->Option Value}{base:Heap}{CX:qm}{k:Nat}{f:Addr}{fd:Aw}{ps:List Str}{sp:Sp}(h:∀vs H Q E,¬sp vs H Q E):aR P w K mg base CX k f fd ps sp:=
 ⟨λvs H Q E q=>(h _ _ _ _ q).elim,λA outer s H args us vs Q E _ _ _ _ hs=>(h _ _ _ _ hs).elim⟩
end L2
namespace L2
open PySem PySem.Spec PyProof.Rows
theorem NL:E4 (.type "list_reverseiterator") "__len__"=pure none:=by rw[DH,CA];kernel_rfl
theorem Ra:E4 (.type "list_reverseiterator") "__length_hint__"=pure (some (.builtin "list_reverseiterator.__length_hint__")):=by rw[DH,CA];kernel_rfl
section
variable{prog:Ak}{w:World}{A:A9}{s:AI}{R:Result->AI->Prop}
theorem JK{I l S:Addr}{its:Array Value}{res:Value}{c0:Nat}(hh:A.handled=none)(hlI:l≠I)(hSI:S≠I)(hSl:S≠l)(hit:s.heap.IsRevIter I l ((its.size:Int)-1))(hl:s.heap.IsList l its)(hz:its.size<=sizeLine)
  (hS:s.heap.get? S=some {cls:=.type "list",data:=.seq #[] c0})
  (hR:∀h' tk acc c,(∀b o,b≠S->b≠I->s.heap.get? b=some o->h'.get? b=some o)->h'.get? S=some {cls:=.type "list",dict:=none,data:=.seq acc c,slots:= #[]}->ItemsOf (λi v=>its[its.size-1-i]? =some v) acc its.size->
   R (.ok (.ret res)) {s with heap:=h',toks:=tk}):
  wpAny (model prog w) A.in1 (Bk (.ref S) (.ref I) res) (λfin s'=>match fin with | .done f=>R (.ok f) s' | .again c'=>c'.quiet=true/\EY (model prog w) A c' R s') (λe s'=>R (.error e) s') s:=by
 have hSf:S ∉ [I,l]:=λhm=>by
  rcases Ac.mp hm with z | z
  ·exact hSI z
  ·exact hSl (AR.mp z)
 have W:=(Walks.listRev (prog:=prog) (w:=w) (A:=A.in1) hh I l hlI its).toS
 unfold Bk
 (refine AA (Ck hit.typeIs ?_))
 have g1:Cs (.ref S) (.ref I)=false:=by simp[Cs,hSI]
 rw[if_neg (by rw[g1];decide)];refine AA (wpAny_pyIter_revIter hit ?_)
 (refine AA (Bb ?_));unfold DO
 refine AA (El hit.typeIs NL ?_)
 show wpAny _ A.in1 (specialOf (BI I) (By "__length_hint__") >>= _) _ _ s
 refine AA (El hit.typeIs Ra ?_)
 generalize hid:("list_reverseiterator.__length_hint__":String)=id0
 wp_delta
 rw[show splitId id0=some ("list_reverseiterator","__length_hint__") from by subst hid;decide+kernel];subst hid
 refine AA (CQ (T:="list_reverseiterator") (b:=true) hit.typeIs (by rw[E8];kernel_rfl) ?_)
 (refine AH ?_);rw[if_neg (by decide)]
 refine AH ⟨CO F.plain_extend_loop _,codeAny_extend_loopS W hz S hSf res its.size 0 s _ c0 rfl (BG _) ⟨BG _,by simpa using hit,hl⟩ hS (ItemsOf.nil _) λs' acc c hm hS' ha=>?_⟩
 rw[Moved.eq_with hm]
 refine hR s'.heap s'.toks acc c (λb o hb hb' e=>hm.heap b o (λz=>?_) e) hS' ha
 rcases Ac.mp z with z | z
 ·exact hb z
 ·exact hb' (AR.mp z)
end
section
variable{prog:Ak}{w:World}{A:A9}{E:Value->AI->Prop}{s:AI}
theorem vY{Q:Value->AI->Prop}{I l:Addr}{its:Array Value}(hh:A.handled=none)(hlI:l≠I)(hit:s.heap.IsRevIter I l ((its.size:Int)-1))(hl:s.heap.IsList l its)(hz:its.size<=sizeLine)
  (hQ:∀h' tk acc c,(∀b o,b≠I->s.heap.get? b=some o->h'.get? b=some o)->h'.get? s.heap.objs.size=some {cls:=.type "list",dict:=none,data:=.seq acc c,slots:= #[]}->ItemsOf (λi v=>its[its.size-1-i]? =some v) acc its.size->
   Q (.ref s.heap.objs.size) {s with heap:=h',toks:=tk}):wpAny (model prog w) A (call (.type "list") [.ref I]) Q E s:=by
 have bI:I<s.heap.objs.size:=by obtain⟨o,e,_⟩:=hit;exact AN e
 have bl:l<s.heap.objs.size:=by obtain⟨o,e,_⟩:=hl;exact AN e
 refine Gp (Q₁:=λobj s1=>obj=.ref s.heap.objs.size/\s1={s with heap:=s.heap.push {cls:=.type "list",data:=.seq #[]}}) F.called_list (F.typeCall_list_1 _) F.entry_list_init (code_list_new _ ⟨rfl,rfl⟩) λobj s1 e1=>?_
 obtain⟨rfl,rfl⟩:=e1
 have hS:(s.heap.push {cls:=.type "list",data:=.seq #[]}).get? s.heap.objs.size=some {cls:=.type "list",data:=.seq #[]}:=AO _ rfl
 have old:∀b o,s.heap.get? b=some o->b≠s.heap.objs.size:=λb o e=>Ae (AN e)
 refine⟨⟨_,hS,rfl⟩,F.args_list_init_2 _ _,?_⟩
 show wpAny _ _ (do let old <-Fy (.ref s.heap.objs.size);Builtin.List.listUpdate (.ref s.heap.objs.size) (λ_=> #[]);letGo old.toList.reverse;Bk (.ref s.heap.objs.size) (.ref I) .none) _ _ _
 (refine AA ?_);unfold Fy;refine AA (BU hS rfl (AH ?_))
 show wpAny _ _ (updateSeq s.heap.objs.size (λ_=> #[]) >>= λ_=>letGo (#[]:Array Value).toList.reverse >>= λ_=>Bk (.ref s.heap.objs.size) (.ref I) .none) _ _ _
 refine AA (Em hS rfl ?_)
 have hS2:=CB (DU (λ_=>(#[]:Array Value))) hS rfl
 have oth:∀b o,s.heap.get? b=some o->((s.heap.push {cls:=.type "list",data:=.seq #[]}).update s.heap.objs.size (DU (λ_=>(#[]:Array Value)))).get? b=some o:=
  λb o e=>(C_ _ _ (DM (old b o e))).trans (AE _ e)
 (refine AA (FO ?_));refine JK (A:=A.in1) hh hlI (Bo bI) (Bo bl) (hit.at λo e=>oth _ o e) (hl.at λo e=>oth _ o e) hz hS2 λh' tk acc c k e a=>?_
 exact⟨rfl,hQ h' tk acc c (λb o hb e=>k b o (old b o e) hb (oth b o e)) e a⟩
end
theorem mf{α β:Type}{r:α->β->Prop}{xs:List α}{ys:List β}(h:Bv r xs ys):Bv r xs.reverse ys.reverse:=by
 induction h with
 | nil=>exact .nil
 | cons a _ ih=>rw[EH,EH];exact bA ih (.cons a .nil)
theorem Ld{its:List Value}{acc:Array Value}(h:ItemsOf (λi v=>its.toArray[its.toArray.size-1-i]? =some v) acc its.toArray.size):acc.toList=its.reverse:=by
 obtain⟨hs,hv⟩:=h
 simp only[Ai,Cd] at hs hv
 apply FP
 intro j
 by_cases hj:j<its.length
 ·have e1:acc[j]? =some acc[j]:=BX (by omega)
  have e2:=hv j _ e1
  rw[DL hj,e2,Bd,e1]
 ·rw[CC (by rw[A6];omega),CC (by rw[B8];omega)]
section
variable{X:Cx}
def tLR(K:AD)(ta:TA):TE:=λσ H Q=>ta σ H λvs H1=>∃(a:Addr) (xs:List V),vs=[.ref a]/\bz K H1 a xs/\∀l,H1 l=none->Q (.ref l) (upd H1 l (.lst xs.reverse))
theorem JL(K:AD){a:Expr}{ta:TA}{p p' pos pos':Pos}(hc:X.calm=true)(hg:Gl X "list")(hm:X.mg "list"=none)(hg':Gl X "reversed")(hm':X.mg "reversed"=none)(ha:PA X [a] ta)(hK:X.K=K:=by rfl)
  (hs:BC [a] X.env=[(false,eval a X.env)]:=by rfl):PE X (.Call (.Name "list" p) [.Call (.Name "reversed" p') [a] [] pos'] [] pos) (tLR K ta):=by
 subst hK
 intro pins s σ H Q I h
 refine B0 (gy I hg hm pV ?_)
 refine BO ?_ rfl rfl
 rw[show BC [.Call (.Name "reversed" p') [a] [] pos'] X.env=[(false,eval (.Call (.Name "reversed" p') [a] [] pos') X.env)] from rfl]
 show wpAny _ _ (spliced [(false,eval (.Call (.Name "reversed" p') [a] [] pos') X.env)]) _ _ s
 refine CV ?_
 refine Call_ (gy I hg' hm' zY (BO (aM (ha pos' pins s σ H _ I h) λus s1 ⟨vs,H1,I1,r1,q1⟩=>?_) hs rfl))
 obtain⟨l,xs,e,hq,q⟩:=q1
 subst e
 cases r1 with
 | cons r rr=>
  cases rr
  cases r
  obtain⟨its,rv,pl,hz⟩:=I1.list hq
  have hl:=rv.length
  refine call_reversed_list pl.isList (D' ?_)
  have bl:l<s1.heap.objs.size:=by obtain⟨o,e,_⟩:=pl.isList;exact AN e
  refine vY (I1.ok.hd hc) (I:=s1.heap.objs.size) (its:=its.toArray) (Ae bl) ⟨_,AO _ rfl,rfl,rfl⟩ (pl.isList.push _) (by simp only[Ai];omega) λh' tk acc c k e it=>?_
  have ei:=Ld it
  have kp:∀b u,s1.heap.get? b=some u->h'.get? b=some u:=λb u e=>k b u (Ae (AN e)) (AE _ e)
  rw[Ay] at e
  have hp:s1.heap.objs.size<=s1.heap.objs.size+1:=B' _
  refine⟨.ref (s1.heap.objs.size+1),_,I1.laid (t':=tk) kp hp (show bM X.prog X.w _ h' _ (.lst xs.reverse) from⟨by rw[B8];exact hz,acc.toList,c,by rw[ei];exact mf rv,e⟩),?_,q _ (I1.hok.fresh hp)⟩
  show RelV (.ref _) _
  rw[show(s1.heap.push (revObj l ((its.toArray.size:Int)-1))).objs.size=s1.heap.objs.size+1 from Ay ..]
  rfl
end
end L2
namespace L2
open PySem PySem.Spec PyProof.Rows
open AutoSeq1 (wpAny_loadPart')
section
variable{prog:Ak}{w:World}{A:A9}{E:Value->AI->Prop}{s:AI}
theorem gB{it t:Addr}{i:Nat}{items:Array Value}{x:Value}{Q:Value->AI->Prop}(hit:s.heap.IsTupleIter it t i)(ht:s.heap.IsTuple t items)(hx:items[i]? =some x)
  (hQ:∀h',h'.IsTupleIter it t (i+1)->B6 it s.heap h'->Q x {s with heap:=h'}):wpAny (model prog w) A (A2 (.ref it)) Q E s:=by
 obtain⟨o,ho,hc,hd⟩:=id hit
 obtain⟨ol,hol,_,nl,hdl⟩:=ht
 unfold A2
 refine AA (BE (name:=By "__next__") hit.typeIs CZ (BJ CZ hit.typeIs Et ?_ (En _)))
 (show wpAny _ _ (field (.ref it) 0 >>= _) _ _ s);(refine AA (BA ho hd (x:=.ref t) rfl ?_))
 (show wpAny _ _ (if(BI t == B5)=true then _ else _) _ _ s);rw[if_neg (show ¬((BI t == B5)=true) from Am)]
 (show wpAny _ _ (field (.ref it) 1 >>= _) _ _ s);(refine AA (BA ho hd (x:=.int i 0) rfl ?_))
 (show wpAny _ _ (Gz (.ref t) >>= _) _ _ s);(refine AA (BU hol hdl ?_))
 simp only[Ag,hx];refine AA (wpAny_setField ho hd (by simp) (AH ⟨x,rfl,AH (hQ _ ?_ (Di ..))⟩))
 exact⟨_,CB _ ho (Obj.isFreed_of_fields (Obj.data_mapFields hd _)),(Obj.cls_mapFields ..).trans hc,(by rw[Obj.data_mapFields hd];simp[Aq])⟩
theorem lK{it t:Addr}{i:Nat}{items:Array Value}{Q:Value->AI->Prop}(hh:A.handled=none)(hit:s.heap.IsTupleIter it t i)(ht:s.heap.IsTuple t items)(hx:items[i]? =none)
  (hE:∀h' e,D9 it s.heap h'->(∃o,h'.get? e=some o/\o.cls=.type "StopIteration")->E (.ref e) {s with heap:=h'}):wpAny (model prog w) A (A2 (.ref it)) Q E s:=by
 obtain⟨o,ho,hc,hd⟩:=id hit
 obtain⟨ol,hol,_,nl,hdl⟩:=ht
 unfold A2
 refine AA (BE (name:=By "__next__") hit.typeIs CZ (BJ CZ hit.typeIs Et ?_ (En _)))
 (show wpAny _ _ (field (.ref it) 0 >>= _) _ _ s);(refine AA (BA ho hd (x:=.ref t) rfl ?_))
 (show wpAny _ _ (if(BI t == B5)=true then _ else _) _ _ s);rw[if_neg (show ¬((BI t == B5)=true) from Am)]
 (show wpAny _ _ (field (.ref it) 1 >>= _) _ _ s);(refine AA (BA ho hd (x:=.int i 0) rfl ?_))
 (show wpAny _ _ (Gz (.ref t) >>= _) _ _ s);(refine AA (BU hol hdl ?_))
 simp only[Ag,hx];refine AA (Ca (AA (wpAny_setField ho hd (by simp) ?_)))
 (show wpAny _ _ (newExc (.type "StopIteration") [] >>= _) _ _ _);(refine AA ?_);simp only[newExc,newTuple]
 (refine AA (BZ ?_ (by size_fits)))
 (refine AA (m:=E9 _ _) (wpAny_of_eq (a:=B5) (by first | rfl | (simp only[E9];rfl)) ?_));(refine BZ ?_ (by size_fits))
 simp only[raiseNew];refine AA (wpAny_handled ?_)
 (first | rw[show A.in1.handled=none from hh] | rw[hh]);refine AA (AH (wpAny_throw ?_))
 exact hE _ _ (((Di (a:=it) ..).extBut.push _).push _) ⟨_,AO _ rfl,rfl⟩
end
end L2
namespace L2
open PySem PySem.Spec PyProof.Rows
section
variable{X:Cx}
def ZG(K:AD):List V->Hp->VK->Prop:=λxs H Q=>∃(a:Addr) (bs:List Bool),xs=[.ref a]/\bz K H a (bs.map V.bl)/\Q (.bl (bs.all id)) H
theorem JM{bs:List Bool}{its:List Value}(r:Vals (bs.map V.bl) its):its=bs.map DS:=by
 induction bs generalizing its with
 | nil=>cases r;rfl
 | cons b bs ih=>
  cases r with
  | cons r1 r2=>
   rw[Ap,ih r2]
   exact congrArg (· ::_) r1
theorem Le(K:AD)(hc:X.calm=true)(hK:X.K=K:=by rfl):cS X (.builtin "all") (ZG K):=by
 subst hK
 intro pins s σ H xs us Q I r h
 obtain⟨a,bs,rfl,hq,q⟩:=h
 obtain⟨u,rfl,ru⟩:=vals1 r
 cases ru
 obtain⟨its,rv,p,_⟩:=I.list hq
 have e:=JM rv
 have bl:a<s.heap.objs.size:=by obtain⟨o,e,_⟩:=p.isList;exact AN e
 refine call_all_walk ?_
 refine DN p.isList ?_
 refine⟨s.heap.objs.size,_,_,_,_,_,λi=>(bs.getD i false),rfl,Hi (A:=X.A.in1) (I.ok.hd hc) _ a (Ae bl) its.toArray,⟨⟨_,AO _ rfl,rfl,rfl⟩,p.isList.push _⟩,?_,λh' tk k=>?_⟩
 ·intro i v s' Q' E' hv hQ'
  have:v=.bool (bs.getD i false):=by
   rw[Cd,e,AW] at hv
   rw[BV]
   cases eb:bs[i]? with
   | none=>rw[eb] at hv;cases hv
   | some b=>rw[eb] at hv;exact(AS hv).symm
  rw[this]
  exact CI hQ'
 ·refine⟨.bl (bs.all id),H,I.kept λb o eo=>k b o (λz=>Ae (AN eo) (AR.mp z)) (AE _ eo),?_,q⟩
  have hl:its.toArray.size=bs.length:=by simp[e]
  have ea:∀cs:List Bool,(BM cs.length).all (λi=>cs.getD i false)=cs.all id:=λcs=>by
   induction cs with
   | nil=>rfl
   | cons c cs ih=>
    rw[A4,Fw,Eb,Fx,Eb,<-ih]
    rfl
  show _=DS _
  rw[hl,ea]
def Td:List V->Hp->VK->Prop:=λxs H Q=>∃(d:Addr) (kvs:List (Key×V)) (ss:List Str),xs=[.ref d]/\H d=some (.dK kvs)/\kvs.map (·.1)=ss.map Av/\ss.length<64/\
 ∀(p:Addr) (ss':List Str),H p=none->ss'.Perm ss->HQ ss'=true->Q (.ref p) (upd H p (.lst (ss'.map V.str)))
theorem m5:∀{vs:List Value} {ss:List Str},vs.length=ss.length->(∀(i:Nat) (v:Value) (x:Str),vs[i]? =some v->ss[i]? =some x->∃t,v=.str x t)->Cm vs ss
 | [],[],_,_=>.nil
 | [],_::_,h,_=>by cases h
 | _::_,[],h,_=>by cases h
 | v::vs,x::ss,h,k=>by
  obtain⟨t,rfl⟩:=k 0 v x rfl rfl
  exact .cons x t (m5 (DY h) λi v y e1 e2=>k (i+1) v y e1 e2)
theorem JN(hc:X.calm=true):cS X (.builtin "sorted") Td:=by
 intro pins s σ H xs us Q I r h
 obtain⟨d,kvs,ss,rfl,hd,hk,h64,q⟩:=h
 obtain⟨u,rfl,ru⟩:=vals1 r
 cases ru
 obtain⟨hz,lo,vs,rel,dd⟩:=xm I.hok hd
 obtain⟨ep,hat⟩:=dd.dictAt
 have hlk:kvs.length=ss.length:=by have:=congrArg Gg hk;simpa using this
 have XY:kvs.length=vs.length:=rel.length
 have hks:∀(i:Nat) (k:Key) (x:Value),vs[i]? =some (k,x)->∃y,ss[i]? =some y/\k=Av y:=λi k x e=>by
  have h1:(vs.map (·.1))[i]? =some k:=by rw[AW,e];rfl
  have h2:vs.map (·.1)=ss.map Av:=by
   rw[<-hk]
   have:∀{l:List (Key×V)} {m:List (Key×Value)},KV l m->m.map (·.1)=l.map (·.1):=λ{l m} q=>by
    unfold KV at q
    induction q with
    | nil=>rfl
    | cons a _ ih=>rw[Ap,Ap,ih,a.1]
   exact this rel
  rw[h2,AW] at h1
  cases es:ss[i]? with
  | none=>rw[es] at h1;cases h1
  | some y=>rw[es] at h1;exact⟨y,rfl,(AS h1).symm⟩
 refine FH kind_sorted plain_sorted entry_sorted (args_sorted1 _) ?_
 unfold Builtin.«sorted»
 (refine AA (m:=checkCount "sorted" 1 1 _) (AH ?_))
 refine AA (PySem.W.kdu_collect (A:=X.A.in1) (PySem.W.kdl_dict (knd:=aY X.prog X.w) (kvs:=vs) (ep:=ep) lo) (I.ok.hd hc) hat (by omega) λh' tk acc k it=>?_)
 have hl:acc.toList.length=ss.length:=by rw[A6,it.1];omega
 have hS:Cm acc.toList ss:=m5 hl λi v x e1 e2=>by
  obtain⟨kk,z,ek,ik⟩:=it.2 i v (by rw[<-Bd];exact e1)
  obtain⟨y,ey,rfl⟩:=hks i kk z ek
  rw[e2] at ey
  cases ey
  rw[Jv] at ik
  rcases cC ik with⟨_,_,z,_⟩ | ⟨x',t,z,ev⟩
  ·cases z
  ·cases z
   exact⟨t,ev⟩
 refine AA (wpAny_newList ?_ (by rw[hl];exact Bx (AY h64 (by decide))))
 have hoL:(h'.push (seqObj "list" acc.toList.toArray 0)).get? h'.objs.size=some (seqObj "list" acc.toList.toArray 0):=AO _ rfl
 refine AA (Bb (BJ slot_list_sort ⟨_,hoL,rfl⟩ entry_list_sort (list_sort_treeK strKind_oneLt hoL hS.keysOf (λv1 v2 rest e=>keyKind_strs (by rw[<-e];exact hS)) (by rw[hl];exact h64) λst' hp hs=>⟨_,rfl,?_⟩) (args_list_sort _)))
 obtain⟨ss',a1,a2,a3⟩:=sorted_out_str hS hp hs
 have I1:Inv X pins σ H {s with heap:=h',toks:=tk}:=I.kept k
 obtain⟨e,he⟩:=sortedHeap_at (out:=(arrOf st').map (·.2)) hoL
 have kp:∀b u,h'.get? b=some u->(sortedHeap (h'.push (seqObj "list" acc.toList.toArray 0)) h'.objs.size acc.toList ((arrOf st').map (·.2))).get? b=some u:=λb u eb=>by
  have lt:=AN eb
  rw[sortedHeap_old (Ae lt) (by rw[Ay];exact CJ lt)]
  exact AE _ eb
 have I2:=I1.laid (a:=h'.objs.size) (o:=.lst (ss'.map V.str)) (t':=tk) kp (AM _) ⟨by rw[AB,a2.length_eq];exact Bx (AY h64 (by decide)),((arrOf st').map (·.2)).toList,e,kN a1,he⟩
 exact AH ⟨_,rfl,⟨.ref h'.objs.size,_,I2,rfl,q _ ss' (I1.hok.fresh (AM _)) a2 a3⟩⟩
end
section
variable{X:Cx}{pins:List (Addr×Obj)}{σ:List (Option V)}{H:Hp}{s:AI}{h':Heap}
theorem Inv.tZ{t':Nat}{ch:List Addr}(I:Inv X pins σ H s)(hf:∀b∈ch,fK X pins H b)(k:∀b u,b ∉ ch->s.heap.get? b=some u->h'.get? b=some u):Inv X pins σ H {s with heap:=h',toks:=t'}:=by
 have oG:∀b u,H b=some u->b ∉ ch:=λb u e z=>by have q:=(hf b z).1;rw[e] at q;cases q
 refine I.step (g':=s.gens) (d':=s.drawn) (ch:=ch) (λb hb=>?_) (λb o _ _ hc e _=>k b o hc e) (λb o _ _ hc e _=>⟨o.slots,k b o hc e⟩) (λ_ _ _ _ n=>n)
  (λb o hc e=>⟨o,k b o hc e⟩) (λ_ _ e=>e) (λ_ _ _ e=>e) (λb ps e=>⟨#[],by rw[e];simp⟩) (λm hm=>?_) (λb u e=>?_) I.bare
 ·obtain⟨f0,f1,f2,f3,f4,f5⟩:=hf b hb
  exact⟨f3,f1,f4,f5⟩
 ·obtain⟨ob,es,ep,ho,r⟩:=hm
  exact⟨ob,es,ep,k _ ob (λz=>(hf _ z).2.1 rfl) ho,r⟩
 ·refine(I.hok b u e).stay (λc v hc q=>k c v ?_ q) (λ_ q=>q) λ_ _ q=>q
  rcases hc with z | z
  ·rw[z];exact oG b u e
  ·exact oG c _ z
end
def Te(K:AD)(a b:Addr):It:=
 ⟨λi H=>∃xs ys x y,bz K H a xs/\bz K H b ys/\xs[i]? =some x/\ys[i]? =some y,
  λi H v H'=>∃x y p,(∀xs,bz K H a xs->xs[i]? =some x)/\(∀ys,bz K H b ys->ys[i]? =some y)/\H p=none/\v=.ref p/\H'=upd H p (.tup [x,y]),
  λi H=>∃xs ys,bz K H a xs/\bz K H b ys/\(xs.length<=i∨ys.length<=i)⟩
theorem NM{P:Ak}{w:World}{K:AD}{elts:List Expr}{x1}{tpos:Pos}(a b z TI TO i1 i2:Addr)(D:DI z TI TO i1 i2 a b):
  Turn P w K (.Tuple elts x1 tpos) (Te K a b) [z,TO,i1,i2,TI] z (λi h=>IsZip h z TI TO .none/\BP h TI (.ref i1) (.ref i2)/\(∃x y,BP h TO x y)/\h.IsListIter i1 a i/\h.IsListIter i2 b i) where
 mem:=by simp
 obj:=λi h st c hc=>by
  obtain⟨hz,hTI,⟨x,y,hTO⟩,h1,h2⟩:=st
  have hc':c=z∨c=TO∨c=i1∨c=i2∨c=TI:=by simpa using hc
  rcases hc' with q | q | q | q | q
  ·subst q;exact⟨_,hz,λv e=>nomatch e⟩
  ·subst q;exact⟨_,hTO,λv e=>nomatch e⟩
  ·subst q
   obtain⟨o,e,_,d⟩:=h1
   exact⟨o,e,λv q=>by rw[d] at q;cases q⟩
  ·subst q
   obtain⟨o,e,_,d⟩:=h2
   exact⟨o,e,λv q=>by rw[d] at q;cases q⟩
  ·subst q;exact⟨_,hTI,λv e=>nomatch e⟩
 keep:=λi h h' st k=>by
  obtain⟨hz,hTI,⟨x,y,hTO⟩,h1,h2⟩:=st
  exact⟨k z (by simp) _ hz,k TI (by simp) _ hTI,⟨x,y,k TO (by simp) _ hTO⟩,h1.at λo q=>k i1 (by simp) o q,h2.at λo q=>k i2 (by simp) o q⟩
 item:=by
  intro X hP hw hK hc i pins s σ H E I hf st hg
  subst hP hw hK
  obtain⟨hz,hTI,⟨u1,u2,hTO⟩,h1,h2⟩:=st
  obtain⟨xs,ys,x,y,hq,hq2,hx,hy⟩:=hg
  obtain⟨its,rv,p,_⟩:=I.list hq
  obtain⟨its2,jF,p2,_⟩:=I.list hq2
  obtain⟨u,hu,ru⟩:=rv.get hx
  obtain⟨v,hv,rv'⟩:=jF.get hy
  refine wpAny_pyNext_zip_item D hz hTI hTO h1 h2 p.isList p2.isList (x:=u) (y:=v) (by simpa using hu) (by simpa using hv) λh1' a1 a2 a3 a4 a5 a6 kk=>?_
  have nn:H s.heap.objs.size=none:=I.hok.fresh (AM _)
  have oP:∀c∈[z,TO,i1,i2],fK X pins H c:=λc hc=>hf c (by
   have hc':c=z∨c=TO∨c=i1∨c=i2:=by simpa using hc
   rcases hc' with q | q | q | q<;>simp[q])
  have I1:Inv X pins σ (upd H s.heap.objs.size (.tup [x,y])) {s with heap:=h1',toks:=s.toks}:=
   I.mW (ch:=[z,TO,i1,i2]) oP (λc o hc q=>kk c o (λe=>hc (by simp[e])) (λe=>hc (by simp[e])) (λe=>hc (by simp[e])) (λe=>hc (by simp[e])) q) (AM _)
    ⟨⟨by show 2<=sizeLine;decide,_,a5,rfl⟩,[u,v],.cons ru (.cons rv' .nil),⟨_,a5,rfl,_,rfl⟩⟩
  have lz:z<s.heap.objs.size:=AN hz
  have Lg:TI<s.heap.objs.size:=AN hTI
  have Lh:TO<s.heap.objs.size:=AN hTO
  have l1:i1<s.heap.objs.size:=by obtain⟨o,q,_⟩:=id h1;exact AN q
  have l2:i2<s.heap.objs.size:=by obtain⟨o,q,_⟩:=id h2;exact AN q
  refine⟨_,rfl,Df a1 λh2' e2 sb=>?_⟩
  obtain⟨f0,f1,f2,f3,f4,f5⟩:=hf z (by simp)
  have I2:=I1.turned (h':=h2') (t':=s.toks) (it:=z) (λc o hc q=>(sb.2 c hc).trans q) (by rw[ao (Ae lz)];exact f0) f1 f3 f4 f5
  refine⟨.ref s.heap.objs.size,_,I2,rfl,⟨x,y,s.heap.objs.size,λzs hy=>by rw[I.iI hy hq];exact hx,λzs hz'=>by rw[I.iI hz' hq2];exact hy,nn,rfl,rfl⟩,
   ⟨e2,(sb.2 TI D.TIz).trans (kk _ _ D.TIz D.TITO D.TIi1 D.TIi2 hTI),⟨_,_,(sb.2 TO D.TOz).trans a2⟩,a3.at λo q=>(sb.2 i1 D.i1z).trans q,a4.at λo q=>(sb.2 i2 D.i2z).trans q⟩,λc hc=>?_⟩
  have hlt:c<s.heap.objs.size:=by
   have hc':c=z∨c=TO∨c=i1∨c=i2∨c=TI:=by simpa using hc
   rcases hc' with q | q | q | q | q
   ·rw[q];exact lz
   ·rw[q];exact Lh
   ·rw[q];exact l1
   ·rw[q];exact l2
   ·rw[q];exact Lg
  rw[ao (Ae hlt)]
  exact(hf c hc).1
 done:=by
  intro X hP hw hK hc i pins s σ H E I hf st hg
  subst hP hw hK
  obtain⟨hz,hTI,⟨u1,u2,hTO⟩,h1,h2⟩:=st
  obtain⟨xs,ys,hq,hq2,hx⟩:=hg
  obtain⟨its,rv,p,_⟩:=I.list hq
  obtain⟨its2,jF,p2,_⟩:=I.list hq2
  have hl:=rv.length
  have hl2:=jF.length
  have hend:its.toArray[i]? =none∨its2.toArray[i]? =none:=by
   rcases hx with q | q
   ·exact .inl (by simp;omega)
   ·exact .inr (by simp;omega)
  have oP:∀c∈[z,TO,i1,i2],fK X pins H c:=λc hc=>hf c (by
   have hc':c=z∨c=TO∨c=i1∨c=i2:=by simpa using hc
   rcases hc' with q | q | q | q<;>simp[q])
  exact wpAny_pyNext_zip_end (I.ok.hd hc) D hz hTI hTO h1 h2 p.isList p2.isList hend λh' kk=>
   ⟨rfl,I.tZ (t':=s.toks) (ch:=[z,TO,i1,i2]) oP (λc o hc q=>kk c o (λe=>hc (by simp[e])) (λe=>hc (by simp[e])) (λe=>hc (by simp[e])) (λe=>hc (by simp[e])) q)⟩
 self:=λ_ _ _ _ _ st h=>Cz st.1 h
def Tg(K:AD)(ta:TA):TI:=λσ H R=>ta σ H λvs H1=>∃a b,vs=[.ref a,.ref b]/\(∃xs,bz K H1 a xs)/\(∃ys,bz K H1 b ys)/\R (Te K a b) H1
theorem Ti{X:Cx}{elts:List Expr}{x1}{tpos:Pos}{a b:Expr}{ta:TA}{p pos:Pos}(hg:Gl X "zip")(hm:X.mg "zip"=none)(ha:PA X [a,b] ta)
  (hs:BC [a,b] X.env=[(false,eval a X.env),(false,eval b X.env)]:=by rfl) (hs2:BC [b] X.env=[(false,eval b X.env)]:=by rfl):
  PI X (.Tuple elts x1 tpos) (.Call (.Name "zip" p) [a,b] [] pos) (Tg X.K ta):=by
 intro pins s σ H R I h
 refine Call_ (gy I hg hm boot_zip (BO (aM (ha pos pins s σ H _ I h) λus s1 ⟨vs,H1,I1,r1,q1⟩=>?_) (by rw[hs,hs2]) (by rw[hs2];rfl)))
 obtain⟨l1,l2,e,⟨xs,hq⟩,⟨ys,hq2⟩,q⟩:=q1
 subst e
 cases r1 with
 | cons r rr=>
  cases rr with
  | cons r' rr=>
   cases rr
   cases r
   cases r'
   obtain⟨its,rv,pl,_⟩:=I1.list hq
   obtain⟨its2,jF,vg,_⟩:=I1.list hq2
   have a1:l1<s1.heap.objs.size:=by obtain⟨_,e,_⟩:=pl.isList;exact AN e
   have a2:l2<s1.heap.objs.size:=by obtain⟨_,e,_⟩:=vg.isList;exact AN e
   refine call_zip_2 pl.isList vg.isList λh' hz hTI hTO hi1 hi2 hsz kk=>?_
   have I2:Inv X pins σ H1 {s1 with heap:=h'}:=I1.kept (t':=s1.toks) kk
   refine Cz hz ?_
   refine⟨s1.heap.objs.size+4,[s1.heap.objs.size+4,s1.heap.objs.size+3,s1.heap.objs.size,s1.heap.objs.size+1,s1.heap.objs.size+2],_,_,H1,rfl,I2,NM l1 l2 _ _ _ _ _ (zipApart_new a1 a2),⟨hz,hTI,⟨_,_,hTO⟩,hi1,hi2⟩,λc hc=>?_,q⟩
   have hle:s1.heap.objs.size<=c:=by
    have hc':c=s1.heap.objs.size+4∨c=s1.heap.objs.size+3∨c=s1.heap.objs.size∨c=s1.heap.objs.size+1∨c=s1.heap.objs.size+2:=by simpa using hc
    rcases hc' with q | q | q | q | q<;>(rw[q];first | exact EV _ _ | exact AM _)
   exact I1.jZ hle (I1.hok.fresh hle)
theorem Rb(t:SetTable)(es:Array (Int×Value))(h:Int)(x:Value):(layNew t es h x).2.1.led=t.led:=by
 unfold layNew
 split
 ·unfold SetTable.put SetTable.orStandIn SetTable.standIn
  dsimp only
  repeat' split
  all_goals rfl
 ·rfl
theorem Li(t:SetTable)(es:Array (Int×Value))(n:Nat):(relayAll t es n).2.1.led=t.led:=by
 unfold relayAll
 split
 ·rename_i q r e
  unfold Hf SetTable.laid at e
  dsimp only
  split
  ·simp only[G6,Bl,Option.pure_def,HR,FY] at e
   obtain⟨_,_,e1,_⟩:=e
   rw[<-e1]
  ·rfl
 ·rfl
theorem z_{t:SetTable}(es:Array (Int×Value))(n:Nat)(hp:t.plain=false):(relayAll t es n).2.1.plain=false:=by
 unfold relayAll
 split
 ·rename_i q r e
  unfold Hf SetTable.laid at e
  dsimp only
  split
  ·simp only[G6,Bl,Option.pure_def,HR,FY] at e
   obtain⟨_,_,e1,_⟩:=e
   rw[<-e1]
   exact hp
  ·rfl
 ·rfl
structure cM (P:Ak)(w:World)(h:Heap)(a:Addr)(es:Array (Int×Value))(ep:Nat)(t:SetTable)(ks:List Str):Prop where
 obj:∃o,h.get? a=some o/\o.ExactSet/\o.data=.set es ep t
 elems:ElemsOf (strKind P w) es.toList
 small:es.size<Ex
 fits:t.fits es.size=true
 led:t.led= !w.params.followText "set-order"
 plain:es.size≠0->t.plain=false
 vals:Cm (es.toList.map (·.2)) ks
 once:ks.Nodup
theorem cM.at{P:Ak}{w:World}{h h':Heap}{a:Addr}{es:Array (Int×Value)}{ep:Nat}{t:SetTable}{ks:List Str}(s:cM P w h a es ep t ks)(k:∀o,h.get? a=some o->h'.get? a=some o):cM P w h' a es ep t ks:=by
 obtain⟨o,e,r⟩:=s.obj
 exact⟨⟨o,k o e,r⟩,s.elems,s.small,s.fits,s.led,s.plain,s.vals,s.once⟩
theorem cM.len{P:Ak}{w:World}{h:Heap}{a:Addr}{es:Array (Int×Value)}{ep:Nat}{t:SetTable}{ks:List Str}(s:cM P w h a es ep t ks):es.size=ks.length:=by
 have:=s.vals.length
 rw[AB,A6] at this
 exact this
theorem kO{vs us:List Value}(p:vs.Perm us):∀{ks:List Str},Cm us ks->∃ks',Cm vs ks'/\ks'.Perm ks:=by
 induction p with
 | nil=>intro ks h;cases h;exact⟨[],.nil,.refl _⟩
 | cons x _ ih=>
  intro ks h
  cases h with
  | cons y tk r=>
   obtain⟨k',a,b⟩:=ih r
   exact⟨y::k',.cons y tk a,b.cons y⟩
 | swap x y l=>
  intro ks h
  cases h with
  | cons a ta r=>
   cases r with
   | cons b tb r=>exact⟨b::a::_,.cons b tb (.cons a ta r),.swap a b _⟩
 | trans _ _ ih1 ih2=>
  intro ks h
  obtain⟨k1,a1,b1⟩:=ih2 h
  obtain⟨k2,a2,b2⟩:=ih1 a1
  exact⟨k2,a2,b2.trans b1⟩
theorem NN{us vs:List Value}{ks ls:List Str}(h1:Cm us ks)(h2:Cm vs ls):Cm (us++vs) (ks++ls):=by
 induction h1 with
 | nil=>exact h2
 | cons x tk _ ih=>exact .cons x tk ih
theorem NP{us:List Value}{ks:List Str}(h:Cm us ks){x:Str}:x∈ks↔∃tk,EO x tk∈us:=by
 induction h with
 | nil=>simp
 | cons y tk _ ih=>
  constructor
  ·intro m
   rcases Ac.mp m with e | m
   ·exact⟨tk,by rw[e];exact AZ⟩
   ·obtain⟨t',m'⟩:=ih.mp m
    exact⟨t',AV _ m'⟩
  ·rintro⟨t',m⟩
   rcases Ac.mp m with e | m
   ·injection e with e1 _
    rw[e1];exact AZ
   ·exact AV _ (ih.mpr ⟨t',m⟩)
section
variable{P:Ak}{w:World}{A:A9}{E:Value->AI->Prop}{s:AI}
theorem NQ{a:Addr}{es:Array (Int×Value)}{ep:Nat}{t:SetTable}{ks:List Str}{x:Str}{tk:Tok}{Q:Bool->AI->Prop}(S:cM P w s.heap a es ep t ks)(room:ks.length+1<Ex)
  (hold:x∈ks->Q false s)
  (hnew:x ∉ ks->∀h' es' ep' t' ks',B6 a s.heap h'->cM P w h' a es' ep' t' ks'->(∀y,y∈ks'↔y∈ks∨y=x)->ks'.length=ks.length+1->Q true {s with heap:=h'}):
  wpAny (model P w) A (setAddHashed a (.str x tk) (hashStr w x)) Q E s:=by
 obtain⟨o,ho,hex,hd⟩:=S.obj
 have XZ:=S.len
 have X_:(strKind P w).is x (.str x tk)=true:=HH P w x tk
 have Tj:(EO x tk).scannable=true:=rfl
 have hhash:hashStr w x=(strKind P w).hash x:=rfl
 rw[hhash]
 unfold setAddHashed setAddHashedIn
 refine Bb (AA (Cn ho hd S.fits ?_))
 dsimp only
 rw[byScan_of Tj S.small S.elems,if_pos rfl]
 unfold setAddByScan
 refine AA (AA (Ca (AA (wpAny_setScan_of X_ ho hd S.fits S.elems ?_))))
 have Tn:x∈ks↔∃e∈es.toList,(strKind P w).is x e.2=true:=by
  rw[NP S.vals]
  constructor
  ·rintro⟨t',m⟩
   obtain⟨e,he,e2⟩:=A1.mp m
   exact⟨e,he,by rw[e2];exact HH P w x t'⟩
  ·rintro⟨e,he,hi⟩
   obtain⟨t',e2⟩:=G4 (x:=x) (v:=e.2) hi
   exact⟨t',by rw[<-e2];exact A1.mpr ⟨e,he,rfl⟩⟩
 cases hr:List.findIdx? (λe=>(strKind P w).is x e.2) es.toList with
 | some j=>
  dsimp only
  obtain⟨hj,hpj,_⟩:=List.findIdx?_eq_some_iff_getElem.mp hr
  exact AH (AH (hold (Tn.mpr ⟨_,C0 hj,hpj⟩)))
 | none=>
  dsimp only
  have nk:x ∉ ks:=λm=>by
   obtain⟨e,he,hp⟩:=Tn.mp m
   have:=List.findIdx?_eq_none_iff.mp hr e he
   rw[hp] at this
   cases this
  have hperm:=layNew_perm t es ((strKind P w).hash x) (.str x tk)
  have hfits:=layNew_fits t es ((strKind P w).hash x) (.str x tk)
  have JO:=Rb t es ((strKind P w).hash x) (.str x tk)
  generalize layNew t es ((strKind P w).hash x) (.str x tk)=L at hperm hfits JO ⊢
  obtain⟨es1,t1,wasDummy,gave⟩:=L
  dsimp only at hperm hfits JO ⊢
  rw[Array.toList_push] at hperm
  have el1:ElemsOf (strKind P w) es1.toList:=(S.elems.push X_ Tj).perm hperm
  have sz1:es1.size=es.size+1:=by rw[<-A6,hperm.length_eq,AG,A6];rfl
  have X0:es1.size<Ex:=by omega
  obtain⟨vh,v1,p1⟩:=kO (hperm.map (·.2)) (ks:=ks++[x]) (by rw[AJ];exact NN S.vals (.cons x tk .nil))
  have X1:vh.Nodup:=p1.nodup_iff.mpr (B7.mpr ⟨S.once,by simp,λy hy z hz=>by rw[AR.mp hz];exact λe=>nk (e▸hy)⟩)
  have To:∀y,y∈vh↔y∈ks∨y=x:=λy=>by rw[p1.mem_iff,Ab,AR]
  have mh:vh.length=ks.length+1:=by rw[p1.length_eq,AG];rfl
  have fin:∀t2:SetTable,t2.fits es1.size=true->t2.led=t.led->t2.plain=false->
    wpAny (model P w) A (do
     HS a es1 t2
     if(!wasDummy&&t2.tooFull)=true then do
       (match (relayAll t2 es1 (Bw es1.size)).2.2 with | true=>rule "set.scan.the-table-gave-way" | false=>pure ())
       HS a (relayAll t2 es1 (Bw es1.size)).1 (relayAll t2 es1 (Bw es1.size)).2.1
       pure (some true)
      else pure (some true)) (λr s'=>r=some true/\Q true s') E s:=λt2 f2 l2 p2=>by
   refine AA (wpAny_storeSet_of ho hd ?_ (EI X0))
   have hg:(s.heap.update a (E_ es1 t2)).get? a=some {o with data:=.set es1 (ep+1) t2}:=by
    have q:=CB (E_ es1 t2) ho (by rw[putSet_of es1 t2 hd];rfl)
    rw[putSet_of es1 t2 hd] at q
    exact q
   have X2:=Di s.heap a (E_ es1 t2)
   have S1:cM P w (s.heap.update a (E_ es1 t2)) a es1 (ep+1) t2 vh:=⟨⟨_,hg,hex,rfl⟩,el1,X0,f2,by rw[l2];exact S.led,λ_=>p2,v1,X1⟩
   split
   ·have pr:=relayAll_perm t2 es1 (Bw es1.size)
    have fr:=relayAll_fits t2 es1 (Bw es1.size)
    have lr:=Li t2 es1 (Bw es1.size)
    have Tp:=z_ es1 (Bw es1.size) p2
    generalize relayAll t2 es1 (Bw es1.size)=Rl at pr fr lr Tp ⊢
    obtain⟨es2,t3,gv⟩:=Rl
    dsimp only at pr fr lr Tp ⊢
    have sz2:es2.size=es1.size:=by rw[<-A6,pr.length_eq,A6]
    have X3:es2.size<Ex:=by omega
    obtain⟨Lj,v2,p2'⟩:=kO (pr.map (·.2)) v1
    refine AA ?_
    have rest:wpAny (model P w) A (do HS a es2 t3;pure (some true)) (λr s'=>r=some true/\Q true s') E {s with heap:=s.heap.update a (E_ es1 t2)}:=by
     refine AA (wpAny_storeSet_of hg rfl (AH ⟨rfl,?_⟩) (EI X3))
     have hg2:=CB (E_ es2 t3) hg (by rw[putSet_of es2 t3 rfl];rfl)
     rw[putSet_of es2 t3 rfl] at hg2
     exact hnew nk _ es2 (ep+1+1) t3 Lj (X2.trans (Di _ a _)) ⟨⟨_,hg2,hex,rfl⟩,el1.perm pr,X3,by rw[sz2] at fr ⊢;exact fr,by rw[lr,l2];exact S.led,λ_=>Tp,v2,p2'.nodup_iff.mpr X1⟩
      (λy=>by rw[p2'.mem_iff];exact To y) (by rw[p2'.length_eq];exact mh)
    cases gv
    ·exact AH rest
    ·exact Ca rest
   ·exact AH ⟨rfl,hnew nk _ es1 (ep+1) t2 vh X2 S1 To mh⟩
  refine AA ?_
  have rest:wpAny (model P w) A (do
    let byValue <-if t1.plain=true then hashByValue 8 (.str x tk) else pure true
    HS a es1 (if byValue=true then t1 else {t1 with plain:=false})
    if(!wasDummy&&(if byValue=true then t1 else {t1 with plain:=false}).tooFull)=true then do
      (match (relayAll (if byValue=true then t1 else {t1 with plain:=false}) es1 (Bw es1.size)).2.2 with | true=>rule "set.scan.the-table-gave-way" | false=>pure ())
      HS a (relayAll (if byValue=true then t1 else {t1 with plain:=false}) es1 (Bw es1.size)).1 (relayAll (if byValue=true then t1 else {t1 with plain:=false}) es1 (Bw es1.size)).2.1
      pure (some true)
     else pure (some true)) (λr s'=>r=some true/\Q true s') E s:=by
   cases hpl:t1.plain with
   | true=>
    rw[if_pos rfl,hashByValue_scannable 8 Tj]
    refine AA (AH ?_)
    exact fin {t1 with plain:=false} (SetTable.fits_plain_off hfits) JO rfl
   | false=>
    rw[if_neg (by decide)]
    refine AA (AH ?_)
    exact fin t1 hfits JO hpl
  have go:∀r s',(r=some true/\Q true s')->wpAny (model P w) A (match r with | some added=>pure added | none=>setAddHashedIn a (.str x tk) ((strKind P w).hash x) 99999) Q E s':=λr s' ⟨e,q⟩=>by
   subst e
   exact AH q
  cases gave
  ·exact AH (aM rest go)
  ·exact Ca (aM rest go)
end
theorem pY{us:List Value}{xs:List Str}(hi:Cm us xs):∀(i:Nat) (v:Value),us[i]? =some v->∃x t,xs[i]? =some x/\v=.str x t:=by
 induction hi with
 | nil=>intro i v hv;simp at hv
 | cons y ty _ ih=>
  intro i v hv
  cases i with
  | zero=>
   have e:EO y ty=v:=by simpa using hv
   exact⟨y,ty,rfl,e.symm⟩
  | succ i=>exact ih i v (by simpa using hv)
section
variable{P:Ak}{w:World}{A:A9}{R:Result->AI->Prop}{I S:Addr}{fp wr:List Addr}{G:Array Ga->Array Ga->Prop}{n:Nat}{Pv:Nat->Value->Prop}{St:Nat->AI->Prop}
theorem NR(W:WalksS P w A.in1 I fp wr G n Pv St)(hSf:S ∉ fp)(xs:List Str)(X4:xs.length=n)(hval:∀i v,Pv i v->∃x t,xs[i]? =some x/\v=.str x t)(hb:n+1<Ex):
  ∀(k i:Nat) (s:AI) (es:Array (Int×Value)) (ep:Nat) (t:SetTable) (ks:List Str),n-i=k->i<=n->St i s->cM P w s.heap S es ep t ks->(∀y,y∈ks↔y∈xs.take i)->ks.length<=i->
   (∀s' es' ep' t' ks',Moved (S::wr) G s s'->cM P w s'.heap S es' ep' t' ks'->(∀y,y∈ks'↔y∈xs)->ks'.length<=n->R (.ok (.ret .none)) s')->
   EY (model P w) A (.builtin "set.update.loop" ⟨[.ref S,.ref I],[]⟩) R s:=by
 have hSw:S ∉ wr:=λz=>hSf (W.sub _ z)
 have more:∀b∈wr,b∈S::wr:=λb z=>AV _ z
 intro k
 induction k with
 | zero=>
  intro i s es ep t ks hk hi st hS hm hl hR
  have e:i=n:=by omega
  subst e
  refine CM Dj ?_
  rw[B2 Br]
  show wpAny (model P w) A.in1 (Ce (.ref I) >>= _) _ _ s
  refine AA (W.done s _ _ st λs' mv=>?_)
  show wpAny (model P w) A.in1 (ret B5) _ _ s'
  refine AH (hR s' es ep t ks (mv.mono more) (hS.at λo q=>mv.heap S o hSw q) (λy=>?_) hl)
  rw[hm y,Bp (by omega)]
 | succ k ih=>
  intro i s es ep t ks hk hi st hS hm hl hR
  have lt:i<n:=by omega
  refine CM Dj ?_
  rw[B2 Br]
  show wpAny (model P w) A.in1 (Ce (.ref I) >>= _) _ _ s
  refine AA (W.item i s _ _ lt st λv s' hv st' mv=>?_)
  obtain⟨x,tx,ex,rfl⟩:=hval i v hv
  have hS':cM P w s'.heap S es ep t ks:=hS.at λo q=>mv.heap S o hSw q
  have tk1:∀y,y∈xs.take (i+1)↔y∈xs.take i∨y=x:=λy=>by rw[Co,ex];simp
  show wpAny (model P w) A.in1 (holding [EO x tx] (setAdd S (.str x tx)) >>= _) _ _ s'
  refine AA (Bb ?_)
  unfold setAdd
  refine Bb (AA ((strKind P w).pyHash (k:=x) (HH _ _ _ _) ?_))
  refine NQ (s:={s' with toks:=s'.toks+1}) hS' (by omega) (λhx=>?_) (λhx h' es' ep' t' ks' sb S2 m2 l2=>?_)
  ·refine AH ⟨CO Br _,ih (i+1) _ es ep t ks (by omega) lt (W.frame _ s' s'.heap _ st' (B' _) λb _ o q=>q) hS' (λy=>?_) (by omega) λs2 es2 Tq t2 Lj mv2 S2 m2 l2=>?_⟩
   ·rw[hm y,tk1 y]
    constructor
    ·exact .inl
    ·rintro(z | z)
     ·exact z
     ·rw[z];exact(hm x).mp hx
   ·exact hR s2 es2 Tq t2 Lj (Hc W.gtrans ((mv.mono more).then_heap (B' _) λb o _ q=>q) mv2) S2 m2 l2
  ·refine AH ⟨CO Br _,ih (i+1) _ es' ep' t' ks' (by omega) lt (W.frame _ s' h' _ st' (B' _) λb hb o q=>?_) S2 (λy=>?_) (by omega) λs2 es2 Tq t2 Lj mv2 S2 m2 l2=>?_⟩
   ·exact(sb.2 b (λz=>hSf (z▸hb))).trans q
   ·rw[m2 y,hm y,tk1 y]
   ·exact hR s2 es2 Tq t2 Lj (Hc W.gtrans ((mv.mono more).then_heap (B' _) λb o hb q=>(sb.2 b (λz=>hb (z▸AZ))).trans q) mv2) S2 m2 l2
end
section
variable{P:Ak}{w:World}{A:A9}{E:Value->AI->Prop}{s:AI}
abbrev d9 (w:World):Obj:={cls:=.type "set",dict:=none,data:=.set #[] 0 (.fresh 0 0 (!w.params.followText "set-order"))}
theorem NS(v:Value){Q:Value->AI->Prop}(h:Q (.ref s.heap.objs.size) {s with heap:=s.heap.push (d9 w)}):
  EY (model P w) A (.call (.builtin "set.__new__") ⟨[.type "set",v],[]⟩) (wants Q E) s:=by
 refine codeAny_of_tree ?_
 show wpAny (model P w) A.in1 (do checkBuiltinCall "set.__new__" ⟨[.type "set",v],[]⟩;again (.builtin "set.__new__" ⟨[.type "set",v],[]⟩)) _ _ s
 refine AA (wpAny_of_eq (PySem.F.newCall_set_1 v) (AH ⟨CO GL _,CM PySem.F.entry_set_new ?_⟩))
 rw[B2 GL]
 unfold Builtin.«set.__new__» Builtin.Frozenset.newClass
 have hsub:=sub_set_self
 obtain⟨hp,g,d,tk,os⟩:=s
 dsimp only
 wp_walk
 refine Fh (AH ?_)
 dsimp only
 simp only[newObj]
 exact AA (wpAny_alloc (AH (AH h)))
theorem Lk(h:Heap):cM P w (h.push (d9 w)) h.objs.size #[] 0 (.fresh 0 0 (!w.params.followText "set-order")) []:=
 ⟨⟨_,AO _ rfl,⟨rfl,rfl,rfl⟩,rfl⟩,λe he=>(by simp at he),by decide,rfl,rfl,λz=>absurd rfl z,.nil,by simp⟩
theorem xU{l:Addr}{its:Array Value}{xs:List Str}{Q:Value->AI->Prop}(hh:A.handled=none)(hl:s.heap.IsList l its)(hi:Cm its.toList xs)(hb:its.size+1<Ex)
  (h:∀(h':Heap) (tk:Nat) es ep t ks,cM P w h' s.heap.objs.size es ep t ks->(∀y,y∈ks↔y∈xs)->ks.length<=its.size->(∀b o,b<s.heap.objs.size->s.heap.get? b=some o->h'.get? b=some o)->Q (.ref s.heap.objs.size) {s with heap:=h',toks:=tk}):
  wpAny (model P w) A (call (.type "set") [.ref l]) Q E s:=by
 obtain⟨c,tl,hmro⟩:=B1.mro
 have hmade:=B1.made
 have hsub:=B1.sub
 refine wpAny_call (codeAny_of_tree ?_)
 show wpAny _ _ (callAny (.type "set") _) _ _ _
 refine AH ⟨Code.quiet_builtin _ (by decide+kernel),CM PySem.F.entry_type_call ?_⟩
 rw[Around.under_plain (weight_type_call_type "set" [.ref l] []) rfl]
 have a1:=B1.notType
 have a2:=B1.canCreate
 have a3:=PySem.F.typeCall_set_1 (.ref l)
 repeat (any_goals (first | assumption | wp_step))
 refine EA (NS (.ref l) (E:=E) (Q:=λobj s₁=>obj=.ref s.heap.objs.size/\s₁={s with heap:=s.heap.push (d9 w)}) ⟨rfl,rfl⟩) λr s₁ hr=>?_
 cases r with
 | error e=>exact hr
 | ok fl=>
  cases fl with
  | ret obj=>
   obtain⟨rfl,rfl⟩:=hr
   have gS:(s.heap.push (d9 w)).get? s.heap.objs.size=some (d9 w):=AO _ rfl
   have hT:FZ {s with heap:=s.heap.push (d9 w)} (.ref s.heap.objs.size) "set":=⟨_,gS,rfl⟩
   have a4:=B1.init.lookup
   have a5:=B1.init.bind (.ref s.heap.objs.size)
   repeat (any_goals (first | assumption | wp_step))
   refine EA (codeAny_call_builtin (R:=wants (λr s₂=>r=.none/\∃h' tk es ep t ks,s₂={s with heap:=h',toks:=tk}/\cM P w h' s.heap.objs.size es ep t ks/\(∀y,y∈ks↔y∈xs)/\ks.length<=its.size/\
     (∀b o,b<s.heap.objs.size->s.heap.get? b=some o->h'.get? b=some o)) E) B1.init.plain PySem.F.entry_set_init (check_set_init_1 hT ?_)) λr₂ s₂ hr₂=>?_
   ·obtain⟨ol,hol,hcl,nl,hdl⟩:=hl
    obtain⟨ocls,odict,odata,oslots⟩:=ol
    simp only at hcl hdl
    subst hcl hdl
    have hol':(s.heap.push (d9 w)).get? l=some {cls:=.type "list",dict:=odict,data:=.seq its nl,slots:=oslots}:=AE _ hol
    have b1:=PySem.F.sub_list_set
    have b2:=PySem.F.sub_list_frozenset
    have b3:(HC "list" == HC "dict")=false:=by decide
    have hl1:(s.heap.push (d9 w)).IsList l its:=⟨_,hol',rfl,nl,rfl⟩
    unfold Builtin.«set.__init__» noKeywords Builtin.Frozenset.updateFrom
    generalize hPI:pyIter=PI
    wp_walk
    subst hPI
    refine DN hl1 ?_
    refine AA (wpAny_runValue ?_)
    have lS:l<s.heap.objs.size:=AN hol
    have hh3:A.in1.in1.in1.handled=none:=by simp[hh]
    have vi:l≠(s.heap.push (d9 w)).objs.size:=by rw[Ay];exact Ae (CJ lS)
    have nf:s.heap.objs.size ∉ [(s.heap.push (d9 w)).objs.size,l]:=by
     rw[Ay]
     simp only[Ac,CD,or_false,not_or]
     exact⟨Ae (CS _),Bo lS⟩
    have X4:xs.length=its.size:=by rw[<-hi.length,A6]
    have hval:∀(i:Nat) (v:Value),its[i]? =some v->∃x t,xs[i]? =some x/\v=.str x t:=λi v hv=>pY hi i v (by rw[Bd];exact hv)
    refine NR ((Hi hh3 _ l vi its).toS) nf xs X4 hval hb (its.size-0) 0 _ #[] 0 _ [] (by omega) (BG _) ⟨⟨_,AO _ rfl,rfl,rfl⟩,hl1.push _⟩ ((Lk s.heap).at λo q=>AE _ q) (λy=>by simp) (AM _) ?hR
    case hR=>
     intro s' es' ep' t' ks' hm hS' hmem hlen
     obtain⟨h',g',d',tk',os'⟩:=s'
     have eg:g'=s.gens:=hm.gens
     have ed:d'=s.drawn:=hm.drawn
     have eo:os'=s.os:=hm.os
     subst eg ed eo
     show wpAny _ _ _ _ _ _
     refine AH ?_
     show wpAny _ _ (ret B5) _ _ _
     refine AH ⟨rfl,h',tk',es',ep',t',ks',rfl,hS',hmem,hlen,λb o hb e=>?_⟩
     refine hm.heap b o ?_ (AE _ (AE _ e))
     simp only[Ac,CD,or_false,not_or]
     rw[Ay]
     exact⟨Ae hb,Ae (CJ hb)⟩
   ·cases r₂ with
    | error e=>exact hr₂
    | ok fl₂=>
     cases fl₂ with
     | ret r=>
      obtain⟨rfl,h',tk,es,ep,t,ks,rfl,hS',hm,XZ,hk'⟩:=hr₂
      repeat (any_goals (first | assumption | wp_step))
      exact h _ _ _ _ _ _ hS' hm XZ hk'
     | _=>exact hr₂.elim
  | _=>exact hr.elim
end
namespace SI
theorem Ll:Manifest.owners.lookup (String.ofList ['r', 'o', 't', 'a', 'r', 'e', 't', 'i', '_', 't', 'e', 's'].reverse)=some Manifest.sig_set_iterator:=by kernel_rfl
theorem slot_next:Slot "set_iterator" "__next__" "set_iterator.__next__":=
 .of (owner:="set_iterator") (n:="__next__") (by rw[DH,CA];kernel_rfl) (by decide+kernel) (by decide+kernel) (by decide+kernel)
  (by first | exact .inl (by decide+kernel) | exact .inr (by decide+kernel)) (by rw[E8];kernel_rfl)
theorem vj:Slot "set_iterator" "__iter__" "set_iterator.__iter__":=
 .of (owner:="set_iterator") (n:="__iter__") (by rw[DH,CA];kernel_rfl) (by decide+kernel) (by decide+kernel) (by decide+kernel)
  (by first | exact .inl (by decide+kernel) | exact .inr (by decide+kernel)) (by rw[E8];kernel_rfl)
theorem entry_next:entryFor table "set_iterator.__next__"=some Builtin.«set_iterator.__next__» :=entryFor_of_tree (by kernel_rfl)
theorem JP:entryFor table "set_iterator.__iter__"=some Builtin.«dict_keyiterator.__iter__» :=
 entryFor_alias (id':="dict_keyiterator.__iter__") (by kernel_rfl) (by first | rfl | decide+kernel | (unfold String.splitOn;simp+decide [HU])) (by decide+kernel) (by kernel_rfl)
theorem args_next(v:Value):argsOk "set_iterator.__next__" ⟨[v],[]⟩:=by
 unfold argsOk;rw[signature?_of (id:="set_iterator.__next__") (n:=['_', '_', 't', 'x', 'e', 'n', '_', '_']) (o:=['r', 'o', 't', 'a', 'r', 'e', 't', 'i', '_', 't', 'e', 's']) (by kernel_rfl) Ll];kernel_rfl
theorem Lm(v:Value):argsOk "set_iterator.__iter__" ⟨[v],[]⟩:=by
 unfold argsOk;rw[signature?_of (id:="set_iterator.__iter__") (n:=['_', '_', 'r', 'e', 't', 'i', '_', '_']) (o:=['r', 'o', 't', 'a', 'r', 'e', 't', 'i', '_', 't', 'e', 's']) (by kernel_rfl) Ll];kernel_rfl
theorem t_:entryFor table "set.__iter__"=some Builtin.«frozenset.__iter__» :=
 entryFor_alias (id':="frozenset.__iter__") (by kernel_rfl) (by first | rfl | decide+kernel | (unfold String.splitOn;simp+decide [HU])) (by decide+kernel) (by kernel_rfl)
end SI
abbrev kc (h:Heap)(I:Addr)(F:Array Value):Prop:=h.get? I=some {cls:=.type "set_iterator",dict:=none,data:=.fields F,slots:= #[]}
section
variable{P:Ak}{w:World}{A:A9}{E:Value->AI->Prop}{s:AI}
theorem t5{I:Addr}{F:Array Value}{Q:Value->AI->Prop}(hI:kc s.heap I F)(h:Q (.ref I) s):wpAny (model P w) A (pyIter (.ref I)) Q E s:=by
 have hT:s.TypeIs (.ref I) "set_iterator":=⟨_,hI,rfl⟩
 refine wpAny_pyIter_slot hT SI.vj (BJ SI.vj hT SI.JP ?_ (SI.Lm _))
 show wpAny (model P w) _ (ret (.ref I)) _ _ s
 exact AH ⟨_,rfl,"set_iterator",_,hT,SI.slot_next.lookup,h⟩
theorem IC{I a:Addr}{sl i ep':Nat}{es:Array (Int×Value)}{ep:Nat}{t:SetTable}{ks:List Str}{v:Value}{nx:Nat}{Q:Option Value->AI->Prop}(hI:kc s.heap I #[Aq sl,Aq i,.ref a,Aq es.size,Aq ep'])
  (S:cM P w s.heap a es ep t ks) (hn:∀(B:A9) (E':Value->AI->Prop) (Q':Option (Value×Nat)->AI->Prop),Q' (some (v,nx)) s->wpAny (model P w) B (HV a sl i ep') Q' E' s)
  (h:∀h',kc h' I #[Aq nx,Aq (i+1:Nat),.ref a,Aq es.size,Aq ep']->B6 I s.heap h'->Q (some v) {s with heap:=h'}):wpAny (model P w) A (Ce (.ref I)) Q E s:=by
 have hT:s.TypeIs (.ref I) "set_iterator":=⟨_,hI,rfl⟩
 obtain⟨o,ho,hex,hd⟩:=S.obj
 unfold Ce
 refine AA (Ct (BE (name:=By "__next__") hT SI.slot_next (BJ SI.slot_next hT SI.entry_next ?_ (SI.args_next _))))
 refine AA (AH ?_)
 refine AA (FA hI rfl ?_)
 refine AA (Cw ho hd S.fits ?_)
 rw[if_neg (by simp[Aq])]
 dsimp only[Aq]
 rw[Ag,Ag,Ag]
 refine AA (hn _ _ _ ?_)
 dsimp only
 refine AA (BD hI (by simp) λh1 e1 b1=>?_)
 refine AA (BD e1 (by simp) λh2 e2 b2=>?_)
 refine AH ⟨v,rfl,AH (h h2 ?_ (b1.trans b2))⟩
 simpa[Aq] using e2
theorem IE{I:Addr}{F:Array Value}{k0:Option Nat}{Q:Option Value->AI->Prop}(hh:A.handled=none)(hI:kc s.heap I F)(hk:2<F.size)(h:∀h',D9 I s.heap h'->Q none {s with heap:=h'}):
  wpAny (model P w) A.in1 (do setField (.ref I) 2 .none;raiseNew (<-newExc (.type "StopIteration") []))
   (λfin s'=>∃v,fin=Fin.done (Flow.ret v)/\wpAny (model P w) A (pure (some v)) Q E s')
   (λe s'=>wpAny (model P w) A (do if <-isInstance e (.type "StopIteration") then pure none else throw e) Q E s') s:=by
 refine AA (BD hI hk λh1 e1 b1=>?_)
 refine AA ?_
 simp only[newExc,newTuple]
 refine AA (BZ ?_ (by size_fits))
 refine AA (m:=E9 _ _) (wpAny_of_eq (a:=B5) (by first | rfl | (simp only[E9];rfl)) ?_)
 refine BZ ?_ (by size_fits)
 simp only[raiseNew]
 refine AA (wpAny_handled ?_)
 rw[show A.in1.handled=none from hh]
 refine AA (AH (wpAny_throw ?_))
 refine AA (CQ (T:="StopIteration") (b:=true) ⟨_,AO _ rfl,rfl⟩ EJ ?_)
 exact AH (h _ ((b1.extBut.push _).push _))
theorem Ln{I a:Addr}{sl i ep':Nat}{es:Array (Int×Value)}{ep:Nat}{t:SetTable}{ks:List Str}{Q:Option Value->AI->Prop}(hh:A.handled=none)(hI:kc s.heap I #[Aq sl,Aq i,.ref a,Aq es.size,Aq ep'])
  (S:cM P w s.heap a es ep t ks) (hn:∀(B:A9) (E':Value->AI->Prop) (Q':Option (Value×Nat)->AI->Prop),Q' none s->wpAny (model P w) B (HV a sl i ep') Q' E' s)
  (h:∀h',D9 I s.heap h'->Q none {s with heap:=h'}):wpAny (model P w) A (Ce (.ref I)) Q E s:=by
 have hT:s.TypeIs (.ref I) "set_iterator":=⟨_,hI,rfl⟩
 obtain⟨o,ho,hex,hd⟩:=S.obj
 unfold Ce
 refine AA (Ct (BE (name:=By "__next__") hT SI.slot_next (BJ SI.slot_next hT SI.entry_next ?_ (SI.args_next _))))
 refine AA (AH ?_)
 refine AA (FA hI rfl ?_)
 refine AA (Cw ho hd S.fits ?_)
 rw[if_neg (by simp[Aq])]
 dsimp only[Aq]
 rw[Ag,Ag,Ag]
 refine AA (hn _ _ _ ?_)
 dsimp only
 exact IE (k0:=none) hh hI (by simp) h
theorem vm{T:Addr}{xs:Array Value}{B:A9}{E':Value->AI->Prop}{Q':Option (Array Value)->AI->Prop}(hT:s.heap.get? T=some {cls:=.type "tuple",data:=.seq xs})(h:Q' (some xs) s):wpAny (model P w) B (Gz (.ref T)) Q' E' s:=by
 unfold Gz
 dsimp only
 refine AA (wpAny_load hT ?_)
 exact AH h
theorem Rc{I a T:Addr}{i p:Nat}{es:Array (Int×Value)}{ep:Nat}{t:SetTable}{ks:List Str}{hv:Int}{v:Value}{ord:List Nat}{Q:Option Value->AI->Prop}(hI:kc s.heap I #[.ref T,Aq i,.ref a,Aq es.size,Aq ep])
  (hT':s.heap.get? T=some {cls:=.type "tuple",data:=.seq (ord.map λ(i:Nat)=>Aq i).toArray}) (S:cM P w s.heap a es ep t ks) (hp:ord[i]? =some p) (he:es[p]? =some (hv,v))
  (h:∀h',kc h' I #[.ref T,Aq (i+1:Nat),.ref a,Aq es.size,Aq ep]->B6 I s.heap h'->Q (some v) {s with heap:=h'}):wpAny (model P w) A (Ce (.ref I)) Q E s:=by
 have hT:s.TypeIs (.ref I) "set_iterator":=⟨_,hI,rfl⟩
 obtain⟨o,ho,hex,hd⟩:=S.obj
 unfold Ce
 refine AA (Ct (BE (name:=By "__next__") hT SI.slot_next (BJ SI.slot_next hT SI.entry_next ?_ (SI.args_next _))))
 refine AA (AH ?_)
 refine AA (FA hI rfl ?_)
 refine AA (Cw ho hd S.fits ?_)
 rw[if_neg (by simp[Aq])]
 dsimp only[Aq]
 refine AA (vm hT' ?_)
 dsimp only
 have e1:(ord.map λ(i:Nat)=>Aq i).toArray[((i:Nat):Int).toNat]? =some (Aq p):=by
  rw[Ag,Cd,AW,hp];rfl
 rw[e1]
 dsimp only[Aq]
 refine AA ?_
 unfold setNextDrawn
 refine AA (Cn ho hd S.fits ?_)
 dsimp only
 rw[Ag,Ag,if_neg (by simp),he]
 refine AH ?_
 refine AA (BD hI (by simp) λh1 e1 b1=>?_)
 refine AH ⟨v,rfl,AH (h h1 ?_ b1)⟩
 simpa[Aq] using e1
theorem Ts{I a T:Addr}{i:Nat}{es:Array (Int×Value)}{ep:Nat}{t:SetTable}{ks:List Str}{ord:List Nat}{Q:Option Value->AI->Prop}(hh:A.handled=none)(hI:kc s.heap I #[.ref T,Aq i,.ref a,Aq es.size,Aq ep])
  (hT':s.heap.get? T=some {cls:=.type "tuple",data:=.seq (ord.map λ(i:Nat)=>Aq i).toArray}) (S:cM P w s.heap a es ep t ks) (hp:ord[i]? =none)
  (h:∀h',D9 I s.heap h'->Q none {s with heap:=h'}):wpAny (model P w) A (Ce (.ref I)) Q E s:=by
 have hT:s.TypeIs (.ref I) "set_iterator":=⟨_,hI,rfl⟩
 obtain⟨o,ho,hex,hd⟩:=S.obj
 unfold Ce
 refine AA (Ct (BE (name:=By "__next__") hT SI.slot_next (BJ SI.slot_next hT SI.entry_next ?_ (SI.args_next _))))
 refine AA (AH ?_)
 refine AA (FA hI rfl ?_)
 refine AA (Cw ho hd S.fits ?_)
 rw[if_neg (by simp[Aq])]
 dsimp only[Aq]
 refine AA (vm hT' ?_)
 dsimp only
 have e1:(ord.map λ(i:Nat)=>Aq i).toArray[((i:Nat):Int).toNat]? =none:=by
  rw[Ag,Cd,AW,hp];rfl
 rw[e1]
 dsimp only
 refine AA (BD hI (by simp) λh1 e1 b1=>?_)
 exact IE (s:={s with heap:=h1}) (k0:=none) hh e1 (by simp) λh2 x=>h h2 (λc o hc q=>x c o hc (b1.extBut c o hc q))
theorem pZ{a:Addr}{Q:Bool->AI->Prop}(h:Q (w.params.followText "set-order") s):wpAny (model P w) A setsByText Q E s:=by
 unfold setsByText
 exact AA (Fh (AH h))
theorem vn{a:Addr}{es:Array (Int×Value)}{ep:Nat}{t:SetTable}{ks:List Str}{sl i:Nat}{Q:Option (Value×Nat)->AI->Prop}(S:cM P w s.heap a es ep t ks)(hb:w.params.followText "set-order"=true)
  (h:Q (((Fi (w.params.setOrder a ep) es)[i]?).map λe=>(e.2,sl)) s):wpAny (model P w) A (HV a sl i ep) Q E s:=by
 obtain⟨o,ho,hex,hd⟩:=S.obj
 unfold HV
 refine AA (Cn ho hd S.fits ?_)
 dsimp only
 refine AA (pZ (a:=a) ?_)
 rw[hb,if_pos rfl,if_neg (by simp)]
 refine AA ?_
 unfold setWalk
 refine AA (Cn ho hd S.fits ?_)
 dsimp only
 refine AA (pZ (a:=a) ?_)
 rw[hb,if_pos rfl]
 refine AA (Fh (AH ?_))
 exact AH h
theorem xV{a:Addr}{es:Array (Int×Value)}{ep:Nat}{t:SetTable}{ks:List Str}{sl i:Nat}{Q:Option (Value×Nat)->AI->Prop}(S:cM P w s.heap a es ep t ks)(hb:w.params.followText "set-order"=false)(h1:es.size<=1)
  (h:Q (match es[Cb t.place sl]?,t.place[Cb t.place sl]? with | some (_,x),some j=>some (x,j+1) | _,_=>none) s):wpAny (model P w) A (HV a sl i ep) Q E s:=by
 obtain⟨o,ho,hex,hd⟩:=S.obj
 have hl:t.led=true:=by rw[S.led,hb];rfl
 unfold HV
 refine AA (Cn ho hd S.fits ?_)
 dsimp only
 refine AA (pZ (a:=a) ?_)
 rw[hb,if_neg (by decide)]
 refine Dy (λhab=>?_) (λ_=>?_)
 ·have hab':(!t.plain&&decide (es.size>1))=true:=hab
  simp at hab'
  omega
 refine AA ?_
 show wpAny (model P w) A (if(!t.led&& !es.isEmpty)=true then unsupported _ else pure ()) _ _ s
 rw[hl,if_neg (by simp)]
 exact AH (AH h)
end
theorem vo{α:Type}(f:Nat->Nat):∀(n k:Nat) (l:List α) (out:Array α),l.length=n->(HW f n k l out).toList.Perm (out.toList++l)
 | 0,k,l,out,h=>by
  have:l=[]:=Fj.mp h
  subst this
  unfold HW
  rw[BS]
 | n+1,k,l,out,h=>by
  have lt:f k % l.length<l.length:=D4 _ (by omega)
  unfold HW
  rw[As lt]
  dsimp only
  refine(vo f n (k+1) _ _ (by rw[FC lt];omega)).trans ?_
  rw[Array.toList_push,DP]
  refine List.Perm.append_left _ ?_
  have e:l=l.take (f k % l.length)++l[f k % l.length]::l.drop (f k % l.length+1):=by rw[<-FI lt,GN]
  rw[EM]
  conv=>rhs;rw[e]
  show(l[f k % l.length]::(l.take (f k % l.length)++l.drop (f k % l.length+1))).Perm _
  exact List.perm_middle.symm
section
variable{P:Ak}{w:World}{A:A9}{E:Value->AI->Prop}
theorem vp{α:Type}:∀(n:Nat) (l:List α) (s:AI) (Q:List α->AI->Prop),l.length=n->(∀ys d',ys.Perm l->Q ys {s with drawn:=d'})->wpAny (model P w) A (drawOrder n l) Q E s
 | 0,l,s,Q,hl,h=>by
  have:l=[]:=Fj.mp hl
  subst this
  unfold drawOrder
  exact AH (h [] s.drawn (.refl _))
 | n+1,[],s,Q,hl,h=>by cases hl
 | n+1,x::l,s,Q,hl,h=>by
  unfold drawOrder
  have go:∀i,i<(x::l).length->wpAny (model P w) A (match (x::l)[i]? with | some y=>do return y::(<-drawOrder n ((x::l).eraseIdx i)) | none=>unsupported "internal:drawOrder") Q E {s with drawn:=s.drawn.bump .order}:=λi hi=>by
   rw[As hi]
   dsimp only
   refine AA (vp n _ _ _ (by rw[FC hi];omega) λys d' p=>AH ?_)
   refine h _ d' ?_
   have e:(x::l)=(x::l).take i++(x::l)[i]::(x::l).drop (i+1):=by rw[<-FI hi,GN]
   refine(p.cons _).trans ?_
   rw[EM]
   conv=>rhs;rw[e]
   exact List.perm_middle.symm
  refine AA ?_
  exact λ_ _ hΓ=>⟨by simp,go _ (D4 _ (by simp))⟩
end
section
variable{P:Ak}{w:World}{A:A9}{E:Value->AI->Prop}{s:AI}
abbrev Pz (ks:List Str):Nat->Value->Prop:=λi v=>∃x tk,ks[i]? =some x/\v=.str x tk
theorem Lo{I a:Addr}{es:Array (Int×Value)}{ep:Nat}{t:SetTable}{ks ks':List Str}(hh:A.handled=none)(hne:a≠I)(hb:w.params.followText "set-order"=true)
  (hv:Cm ((Fi (w.params.setOrder a ep) es).toList.map (·.2)) ks') (hl:ks'.length=es.size):
  Walks P w A I [I,a] [I] es.size (Pz ks') (λi h=>kc h I #[Aq 0,Aq i,.ref a,Aq es.size,Aq ep]/\cM P w h a es ep t ks) where
 sub:=λb hb=>by simp at hb;simp[hb]
 frame:=λ_ _ _ st hk=>⟨hk I (by simp) _ st.1,st.2.at λo q=>hk a (by simp) o q⟩
 item:=λi s Q E hi st hQ=>by
  have hsz:(Fi (w.params.setOrder a ep) es).size=es.size:=by rw[<-A6,<-AB (f:=(·.2)),hv.length,hl]
  obtain⟨e,he⟩:∃e,(Fi (w.params.setOrder a ep) es)[i]? =some e:=⟨_,BX (by omega)⟩
  refine IC (sl:=0) (v:=e.2) (nx:=0) st.1 st.2 (λB E' Q' q=>vn st.2 hb (by rw[he];exact q)) λh' e1 b1=>hQ e.2 h' s.toks ?_ ⟨e1,st.2.at λo q=>(b1.2 a hne).trans q⟩ λb o hb q=>(b1.2 b (by simpa using hb)).trans q
  obtain⟨x,tk,ex,ev⟩:=pY hv i e.2 (by rw[AW,Bd,he];rfl)
  exact⟨x,tk,ex,ev⟩
 done:=λs Q E st hQ=>by
  have hsz:(Fi (w.params.setOrder a ep) es).size=es.size:=by rw[<-A6,<-AB (f:=(·.2)),hv.length,hl]
  have he:(Fi (w.params.setOrder a ep) es)[es.size]? =none:=EK (by omega)
  exact Ln (sl:=0) hh st.1 st.2 (λB E' Q' q=>vn st.2 hb (by rw[he];exact q)) λh' x=>hQ h' s.toks λb o hb q=>x b o (by simpa using hb) q
 self:=λ_ _ _ _ st hQ=>t5 st.1 hQ
theorem JQ{I a T:Addr}{es:Array (Int×Value)}{ep:Nat}{t:SetTable}{ks ks':List Str}{ord:List Nat}(hh:A.handled=none)(hne:a≠I)(hTI:T≠I)(hp:ord.Perm (BM es.size))
  (hv:Cm (ord.map λp=>(es.getD p (0,.none)).2) ks'):
  Walks P w A I [I,a,T] [I] es.size (Pz ks') (λi h=>kc h I #[.ref T,Aq i,.ref a,Aq es.size,Aq ep]/\cM P w h a es ep t ks/\h.get? T=some {cls:=.type "tuple",data:=.seq (ord.map λ(i:Nat)=>Aq i).toArray}) where
 sub:=λb hb=>by simp at hb;simp[hb]
 frame:=λ_ _ _ st hk=>⟨hk I (by simp) _ st.1,st.2.1.at λo q=>hk a (by simp) o q,hk T (by simp) _ st.2.2⟩
 item:=λi s Q E hi st hQ=>by
  have lo:ord.length=es.size:=by rw[hp.length_eq,DQ]
  obtain⟨p,ho⟩:∃p,ord[i]? =some p:=⟨_,As (by omega)⟩
  have hlt:p<es.size:=CT.mp (hp.mem_iff.mp (AL ho))
  have he:es[p]? =some ((es.getD p (0,.none)).1,(es.getD p (0,.none)).2):=by
   rw[BX hlt,Eu,BX hlt];rfl
  refine Rc st.1 st.2.2 st.2.1 ho he λh' e1 b1=>hQ _ h' s.toks ?_ ⟨e1,st.2.1.at λo q=>(b1.2 a hne).trans q,(b1.2 T hTI).trans st.2.2⟩ λb o hb q=>(b1.2 b (by simpa using hb)).trans q
  obtain⟨x,tk,ex,ev⟩:=pY hv i _ (by rw[AW,ho];rfl)
  exact⟨x,tk,ex,ev⟩
 done:=λs Q E st hQ=>by
  have lo:ord.length=es.size:=by rw[hp.length_eq,DQ]
  exact Ts hh st.1 st.2.2 st.2.1 (CC (by omega)) λh' x=>hQ h' s.toks λb o hb q=>x b o (by simpa using hb) q
 self:=λ_ _ _ _ st hQ=>t5 st.1 hQ
theorem JR(p:Nat):Cb #[p] 0=0:=by
 unfold Cb
 simp[HX]
theorem JS(p:Nat):Cb #[p] (p+1)=1:=by
 unfold Cb
 simp[HX]
theorem NT{I a:Addr}{es:Array (Int×Value)}{ep:Nat}{t:SetTable}{ks:List Str}(hh:A.handled=none)(hne:a≠I)(hb:w.params.followText "set-order"=false)(h1:es.size<=1)(hf:t.fits es.size=true)(hv:Cm (es.toList.map (·.2)) ks):
  Walks P w A I [I,a] [I] es.size (Pz ks) (λi h=>kc h I #[Aq (if i=0 then 0 else t.place.getD 0 0+1:Nat),Aq i,.ref a,Aq es.size,Aq ep]/\cM P w h a es ep t ks) where
 sub:=λb hb=>by simp at hb;simp[hb]
 frame:=λ_ _ _ st hk=>⟨hk I (by simp) _ st.1,st.2.at λo q=>hk a (by simp) o q⟩
 item:=λi s Q E hi st hQ=>by
  have i0:i=0:=by omega
  subst i0
  have sz:es.size=1:=by omega
  have tp:t.place.size=1:=by
   unfold SetTable.fits at hf
   simp only[Bg,beq_iff_eq] at hf
   omega
  obtain⟨p,hp⟩:∃p,t.place= #[p]:=GO.mp tp
  obtain⟨e,he⟩:∃e,es[0]? =some e:=⟨_,BX (by omega)⟩
  refine IC (sl:=0) (v:=e.2) (nx:=p+1) st.1 st.2 (λB E' Q' q=>xV st.2 hb h1 ?_) λh' e1 b1=>hQ e.2 h' s.toks ?_ ⟨?_,st.2.at λo q=>(b1.2 a hne).trans q⟩ λb o hb q=>(b1.2 b (by simpa using hb)).trans q
  ·rw[hp,JR,he]
   exact q
  ·obtain⟨x,tk,ex,ev⟩:=pY hv 0 e.2 (by rw[AW,Bd,he];rfl)
   exact⟨x,tk,ex,ev⟩
  ·rw[hp]
   exact e1
 done:=λs Q E st hQ=>by
  refine Ln hh st.1 st.2 (λB E' Q' q=>xV st.2 hb h1 ?_) λh' x=>hQ h' s.toks λb o hb q=>x b o (by simpa using hb) q
  by_cases z:es.size=0
  ·have ez:es= #[]:=Array.size_eq_zero_iff.mp z
   rw[ez]
   simpa using q
  ·have sz:es.size=1:=by omega
   have tp:t.place.size=1:=by
    unfold SetTable.fits at hf
    simp only[Bg,beq_iff_eq] at hf
    omega
   obtain⟨p,hp⟩:∃p,t.place= #[p]:=GO.mp tp
   rw[if_neg z,hp]
   show Q' (match es[Cb #[p] (p+1)]?,(#[p]:Array Nat)[Cb #[p] (p+1)]? with | some (_,x),some j=>some (x,j+1) | _,_=>none) _
   rw[JS,EK (by omega)]
   exact q
 self:=λ_ _ _ _ st hQ=>t5 st.1 hQ
theorem JT{a:Addr}{es:Array (Int×Value)}{ep:Nat}{t:SetTable}{ks:List Str}{Q:Value->AI->Prop}(S:cM P w s.heap a es ep t ks)
  (h:∀(I:Addr) (h1:Heap) (d1:Drawn) (fx:List Addr) (ks':List Str) (St:Nat->Heap->Prop),ks'.Perm ks->s.heap.objs.size<=I->I<h1.objs.size->(∀b∈fx,s.heap.objs.size<=b/\b<h1.objs.size)->(∀b o,s.heap.get? b=some o->h1.get? b=some o)->St 0 h1->
   (∀B:A9,B.handled=none->Walks P w B I (I::a::fx) [I] es.size (Pz ks') St)->Q (.ref I) {s with heap:=h1,drawn:=d1}):
  wpAny (model P w) A (pyIter (.ref a)) Q E s:=by
 obtain⟨o,ho,hex,hd⟩:=S.obj
 have hT:s.TypeIs (.ref a) "set":=⟨o,ho,hex.1⟩
 have la:a<s.heap.objs.size:=AN ho
 have hsz:=S.len
 refine wpAny_pyIter_slot hT GP (BJ GP hT SI.t_ ?_ (PySem.F.args_set_iter_1 _))
 unfold Builtin.«frozenset.__iter__» Builtin.Frozenset.slot0 slotArgs
 simp only[List.isEmpty_nil,Bool.not_true,CY, ↓reduceIte,bind_assoc,CK,bne_self_eq_false]
 unfold Builtin.Frozenset.addrOf Builtin.Frozenset.sizeOf
 refine AA (AH ?_)
 try dsimp only
 refine AA (AH ?_)
 refine AA (AA (Cw ho hd S.fits (AH ?_)))
 unfold setDrawn
 refine AA (AA (Cn ho hd S.fits ?_))
 dsimp only
 refine AA (pZ (a:=a) (AH ?_))
 refine Dy (λhab=>?_) (λhab=>?_)
 ·have hab':(!w.params.followText "set-order"&&(!t.plain&&decide (es.size>1)))=true:=hab
  refine AA (vp _ _ _ _ (DQ) λys d' p=>?_)
  have ly:ys.length=es.size:=by rw[p.length_eq,DQ]
  refine AA (FD ?_ (by rw[AB,ly];exact EI S.small))
  have hoT:(s.heap.push {cls:=.type "tuple",data:=.seq (ys.map λ(i:Nat)=>Aq i).toArray}).get? s.heap.objs.size=some {cls:=.type "tuple",data:=.seq (ys.map λ(i:Nat)=>Aq i).toArray}:=AO _ rfl
  have Lp:(s.heap.push {cls:=.type "tuple",data:=.seq (ys.map λ(i:Nat)=>Aq i).toArray}).objs.size=s.heap.objs.size+1:=Ay ..
  refine AA (wpAny_setEpoch_of (s:={s with heap:=s.heap.push {cls:=.type "tuple",data:=.seq (ys.map λ(i:Nat)=>Aq i).toArray},drawn:=d'}) (AE _ ho) hd S.fits ?_)
  have SS:cM P w (s.heap.push {cls:=.type "tuple",data:=.seq (ys.map λ(i:Nat)=>Aq i).toArray}) a es ep t ks:=S.at λo q=>AE _ q
  have old:∀b o,s.heap.get? b=some o->(s.heap.push {cls:=.type "tuple",data:=.seq (ys.map λ(i:Nat)=>Aq i).toArray}).get? b=some o:=λb o q=>AE _ q
  generalize s.heap.push {cls:=.type "tuple",data:=.seq (ys.map λ(i:Nat)=>Aq i).toArray}=h1 at hoT Lp SS old ⊢
  refine AA (BZ (AH ⟨_,rfl,"set_iterator",_,⟨_,AO _ rfl,rfl⟩,SI.slot_next.lookup,?_⟩))
  have ent:((BM es.size).map λp=>(es.getD p (0,.none)).2)=es.toList.map (·.2):=by
   apply FP
   intro i
   rw[AW,AW,show es.toList[i]? =es[i]? from Bd]
   by_cases hi:i<es.size
   ·rw[List.getElem?_range hi,BX hi]
    show some (es.getD i (0,.none)).2=some es[i].2
    rw[Eu,BX hi];rfl
   ·rw[CC (by rw[DQ];omega),EK (by omega)];rfl
  obtain⟨ks',v',p'⟩:=kO (p.map λp=>(es.getD p (0,.none)).2) (ks:=ks) (by rw[ent];exact S.vals)
  refine h h1.objs.size (h1.push _) d' [s.heap.objs.size] ks' _ p' (by rw[Lp];exact B' _) (by rw[Ay];exact CS _) (λb hb=>?_) (λb o q=>AE _ (old b o q)) ?_ (λB hB=>JQ (ep:=ep) (t:=t) (ks:=ks) hB ?_ ?_ p v')
  ·rw[AR.mp hb,Ay,Lp]
   exact⟨AM _,CJ (CS _)⟩
  ·exact⟨AO _ rfl,SS.at λo q=>AE _ q,AE _ hoT⟩
  ·rw[Lp];exact Ae (CJ la)
  ·rw[Lp];exact Ae (CS _)
 ·have hab':¬(!w.params.followText "set-order"&&(!t.plain&&decide (es.size>1)))=true:=hab
  refine AA (AH ?_)
  refine AA (wpAny_setEpoch_of ho hd S.fits ?_)
  refine AA (BZ (AH ⟨_,rfl,"set_iterator",_,⟨_,AO _ rfl,rfl⟩,SI.slot_next.lookup,?_⟩))
  have vi:a≠s.heap.objs.size:=Ae la
  cases hb:w.params.followText "set-order" with
  | true=>
   obtain⟨ks',v',p'⟩:=kO ((vo (w.params.setOrder a ep) es.size 0 es.toList #[] (by simp)).map (·.2)) (ks:=ks) (by simpa using S.vals)
   exact h s.heap.objs.size (s.heap.push _) s.drawn [] ks' _ p' (AM _) (by rw[Ay];exact CS _) (λb hb=>by simp at hb) (λb o q=>AE _ q) ⟨AO _ rfl,S.at λo q=>AE _ q⟩
    (λB hB=>Lo (ep:=ep) (t:=t) (ks:=ks) hB vi hb v' (by rw[p'.length_eq,hsz]))
  | false=>
   have few:es.size<=1:=by
    rw[hb] at hab'
    by_cases z:es.size<=1
    ·exact z
    ·exfalso
     refine hab' ?_
     rw[S.plain (by omega),decide_eq_true (show es.size>1 by omega)]
     rfl
   exact h s.heap.objs.size (s.heap.push _) s.drawn [] ks _ (.refl _) (AM _) (by rw[Ay];exact CS _) (λb hb=>by simp at hb) (λb o q=>AE _ q) ⟨AO _ rfl,S.at λo q=>AE _ q⟩
    (λB hB=>NT (ep:=ep) (t:=t) (ks:=ks) hB vi hb few S.fits S.vals)
theorem NU{r:Addr}{Q:Bool->AI->Prop}(hT:s.TypeIs (.ref r) "set")(h:Q false s):wpAny (model P w) A (DO (.ref r)) Q E s:=by
 unfold DO
 refine AA (El hT PySem.F.slot_set_len.lookup ?_)
 generalize hid:("set.__len__":String)=id0
 wp_delta
 rw[show splitId id0=some ("set","__len__") from by subst hid;decide+kernel]
 subst hid
 refine AA (CQ (T:="set") (b:=true) hT (by rw[E8];kernel_rfl) ?_)
 refine Dy (λhab=>absurd hab (by decide)) (λ_=>?_)
 refine Dy (λ_=>?_) (λhab=>absurd (by decide+kernel) hab)
 exact AA (Ck hT (AH h))
theorem Hj{a:Addr}{es:Array (Int×Value)}{ep:Nat}{t:SetTable}{ks:List Str}{Q:List Value->AI->Prop}(S:cM P w s.heap a es ep t ks)(hh:A.handled=none)
  (h:∀(h':Heap) (tk:Nat) (d':Drawn) (acc:List Value) (ks':List Str),(∀b o,s.heap.get? b=some o->h'.get? b=some o)->Cm acc ks'->ks'.Perm ks->Q acc {s with heap:=h',toks:=tk,drawn:=d'}):
  wpAny (model P w) A (collect (.ref a)) Q E s:=by
 obtain⟨o,ho,hex,hd⟩:=S.obj
 have la:a<s.heap.objs.size:=AN ho
 have hsz:=S.len
 unfold collect
 refine AA (wpAny_runValue (CM entry_proto_collect' ?_))
 rw[B2 PySem.F.plain_proto_collect]
 show wpAny (model P w) A.in1 (newList [] >>= λl=>again (.builtin "list.__iadd__" ⟨[l,.ref a],[]⟩)) _ _ s
 refine AA (BZ ?_)
 refine AH ⟨CO Fl _,CM entry_list_iadd' ?_⟩
 rw[B2 Fl]
 have g1:(s.heap.push {cls:=.type "list",data:=.seq ([]:List Value).toArray}).get? s.heap.objs.size=some {cls:=.type "list",data:=.seq #[]}:=AO _ rfl
 have z1:(s.heap.push {cls:=.type "list",data:=.seq ([]:List Value).toArray}).objs.size=s.heap.objs.size+1:=Ay ..
 have k1:∀b o,s.heap.get? b=some o->(s.heap.push {cls:=.type "list",data:=.seq ([]:List Value).toArray}).get? b=some o:=λb o q=>AE _ q
 show wpAny (model P w) A.in1 (Bk (.ref s.heap.objs.size) (.ref a) (.ref s.heap.objs.size)) _ _ _
 generalize s.heap.push {cls:=.type "list",data:=.seq ([]:List Value).toArray}=h1 at g1 z1 k1 ⊢
 have S1:cM P w h1 a es ep t ks:=S.at λo q=>k1 a o q
 have T1:FZ {s with heap:=h1} (.ref a) "set":=⟨o,k1 a o ho,hex.1⟩
 unfold Bk
 refine AA (Ck T1 ?_)
 have n1:Cs (.ref s.heap.objs.size) (.ref a)=false:=by simp[Cs];exact Bo la
 rw[if_neg (by rw[n1];decide)]
 refine AA (JT (s:={s with heap:=h1}) S1 λI h2 d2 fx ks' St pk X5 ltI fxo k2 st W=>?_)
 refine AA (Bb (NU ⟨o,k2 a o (k1 a o ho),hex.1⟩ ?_))
 refine Dy (λ_=>?_) (λhab=>absurd (by decide+kernel) hab)
 have lS:s.heap.objs.size<h1.objs.size:=by rw[z1];exact CS _
 have nf:s.heap.objs.size ∉ I::a::fx:=λm=>by
  rcases Ac.mp m with q | m
  ·exact absurd X5 (by rw[<-q];exact Nat.not_le.mpr lS)
  ·rcases Ac.mp m with q | m
   ·exact absurd la (by rw[<-q];exact BQ _)
   ·exact absurd (fxo _ m).1 (Nat.not_le.mpr lS)
 refine AA (Ca (AA ?_))
 have g2:=k2 _ _ g1
 show wpAny (model P w) A.in1 (updateSeq s.heap.objs.size (·.push .none) >>= λ_=>updateSeq s.heap.objs.size (·.pop)) _ _ _
 refine AA (Em g2 rfl ?_)
 have g3:=CB (DU (·.push B5)) g2 rfl
 refine Em (hz:=by seq_fits) g3 rfl ?_
 have g4:=CB (DU (·.pop)) g3 rfl
 have k4:∀b o,b≠s.heap.objs.size->h2.get? b=some o->((h2.update s.heap.objs.size (DU (·.push B5))).update s.heap.objs.size (DU (·.pop))).get? b=some o:=λb o nb q=>
  (C_ _ _ (DM nb)).trans ((C_ _ _ (DM nb)).trans q)
 have Pu:=(W A.in1 hh).frame 0 _ _ st λb hb o q=>k4 b o (λz=>nf (z▸hb)) q
 refine AH ⟨CO PySem.F.plain_extend_loop _,codeAny_extend_loopS (W A.in1 hh).toS (EI S.small) s.heap.objs.size nf _ es.size 0 _ #[] _ rfl (BG _) Pu g4 (ItemsOf.nil _) λs' acc' c' hm hS' hacc=>?_⟩
 show wpAny (model P w) A (load s.heap.objs.size >>= _) _ _ s'
 refine AA (wpAny_load hS' ?_)
 refine AH ?_
 rw[Moved.eq_with hm]
 refine h s'.heap s'.toks d2 acc'.toList ks' (λb o q=>hm.heap b o (λm=>?_) (k4 b o (Ae (AN q)) (k2 b o (k1 b o q)))) ?_ pk
 ·have lb:=AN q
  rcases Ac.mp m with z | m
  ·exact absurd lb (by rw[z];exact BQ _)
  ·have z:=AR.mp m
   exact absurd (CG lb lS) (by rw[z];exact Nat.not_lt.mpr X5)
 ·have ll:acc'.toList.length=ks'.length:=by rw[A6,hacc.1,hsz,pk.length_eq]
  refine m5 ll λi v x e1 e2=>?_
  obtain⟨y,tk,ey,ev⟩:=hacc.2 i v (by rw[<-Bd];exact e1)
  rw[e2] at ey
  cases ey
  exact⟨tk,ev⟩
end
def xW(P:Ak)(w:World)(a:Addr)(ks:List Str):HO:=.ext λh=>∃es ep t ks',cM P w h a es ep t ks'/\ks'.Perm ks
section
variable{X:Cx}
def ZH(X:Cx):List V->Hp->VK->Prop:=λxs H Q=>∃(l:Addr) (ss:List Str),xs=[.ref l]/\bz X.K H l (ss.map V.str)/\ss.length+1<Ex/\
 ∀(p:Addr) (ks:List Str),H p=none->ks.Nodup->(∀y,y∈ks↔y∈ss)->ks.length<=ss.length->Q (.ref p) (upd H p (xW X.prog X.w p ks))
theorem Lq(hc:X.calm=true):cS X (.type "set") (ZH X):=by
 intro pins s σ H xs us Q I r h
 obtain⟨l,ss,rfl,hq,hb,q⟩:=h
 obtain⟨u,rfl,ru⟩:=vals1 r
 cases ru
 obtain⟨its,rv,p,_⟩:=I.list hq
 have hl:=rv.length
 rw[AB] at hl
 refine xU (I.ok.hd hc) p.isList (m_ rv) (by simp;omega) λh' tk es ep t ks S hm hlen kp=>?_
 have k':∀b o,s.heap.get? b=some o->h'.get? b=some o:=λb o e=>kp b o (AN e) e
 have hp:s.heap.objs.size<=s.heap.objs.size:=AM _
 have I2:=I.laid (a:=s.heap.objs.size) (o:=xW X.prog X.w s.heap.objs.size ks) (t':=tk) k' hp ⟨⟨es,ep,t,ks,S,.refl _⟩,(let ⟨o,e,_⟩:=S.obj;⟨o,e⟩),λh1 h2 ⟨es1,ep1,t1,vh,S1,p1⟩ k2=>⟨es1,ep1,t1,vh,S1.at k2,p1⟩⟩
 exact⟨.ref s.heap.objs.size,_,I2,rfl,q _ ks (I.hok.fresh hp) S.once hm (by simp at hlen;omega)⟩
def NV(X:Cx):List V->Hp->VK->Prop:=λxs H Q=>∃(a:Addr) (ks:List Str),xs=[.ref a]/\H a=some (xW X.prog X.w a ks)/\ks.length<64/\
 ∀(p:Addr) (ss':List Str),H p=none->ss'.Perm ks->HQ ss'=true->Q (.ref p) (upd H p (.lst (ss'.map V.str)))
theorem xX(hc:X.calm=true):cS X (.builtin "sorted") (NV X):=by
 intro pins s σ H xs us Q I r h
 obtain⟨a,ks,rfl,ha,h64,q⟩:=h
 obtain⟨u,rfl,ru⟩:=vals1 r
 cases ru
 obtain⟨⟨es,ep,t,ks0,S,p0⟩,_,_⟩:=(show bM X.prog X.w H s.heap a (xW X.prog X.w a ks) from I.hok a _ ha)
 refine FH kind_sorted plain_sorted entry_sorted (args_sorted1 _) ?_
 unfold Builtin.«sorted»
 (refine AA (m:=checkCount "sorted" 1 1 _) (AH ?_))
 refine AA (Hj (A:=X.A.in1) S (I.ok.hd hc) λh' tk d' acc vh k hS p1=>?_)
 have hl:acc.length=ks.length:=by rw[hS.length,p1.length_eq,p0.length_eq]
 refine AA (wpAny_newList ?_ (by rw[hl];exact Bx (AY h64 (by decide))))
 have hoL:(h'.push (seqObj "list" acc.toArray 0)).get? h'.objs.size=some (seqObj "list" acc.toArray 0):=AO _ rfl
 refine AA (Bb (BJ slot_list_sort ⟨_,hoL,rfl⟩ entry_list_sort (list_sort_treeK strKind_oneLt hoL hS.keysOf (λv1 v2 rest e=>keyKind_strs (by rw[<-e];exact hS)) (by rw[hl];exact h64) λst' hp hs=>⟨_,rfl,?_⟩) (args_list_sort _)))
 obtain⟨ss',a1,a2,a3⟩:=sorted_out_str hS hp hs
 have I1:Inv X pins σ H {s with heap:=h',toks:=tk,drawn:=d'}:=I.step (g':=s.gens) (d':=d') (ch:=[]) (λb z=>by cases z) (λb o _ _ _ e _=>k b o e) (λb o _ _ _ e _=>⟨o.slots,k b o e⟩) (λ_ _ _ _ n=>n)
  (λb o _ e=>⟨o,k b o e⟩) (λ_ _ e=>e) (λ_ _ _ e=>e) (λb ps e=>⟨#[],by rw[e];simp⟩) (λm ⟨ob,e1,e2,hb,r⟩=>⟨ob,e1,e2,k _ ob hb,r⟩) (λb u e=>(I.hok b u e).stay (λc v _ z=>k c v z) (λ_ z=>z) λ_ _ z=>z) I.bare
 obtain⟨e,he⟩:=sortedHeap_at (out:=(arrOf st').map (·.2)) hoL
 have kp:∀b u,h'.get? b=some u->(sortedHeap (h'.push (seqObj "list" acc.toArray 0)) h'.objs.size acc ((arrOf st').map (·.2))).get? b=some u:=λb u eb=>by
  have lt:=AN eb
  rw[sortedHeap_old (Ae lt) (by rw[Ay];exact CJ lt)]
  exact AE _ eb
 have I2:=I1.laid (a:=h'.objs.size) (o:=.lst (ss'.map V.str)) (t':=tk) kp (AM _) ⟨by rw[AB,a2.length_eq,p1.length_eq,p0.length_eq];exact Bx (AY h64 (by decide)),((arrOf st').map (·.2)).toList,e,kN a1,he⟩
 exact AH ⟨_,rfl,⟨.ref h'.objs.size,_,I2,rfl,q _ ss' (I1.hok.fresh (AM _)) ((a2.trans p1).trans p0) a3⟩⟩
end
end L2
namespace L2
open PySem PySem.Spec PyProof.Rows
open PySem.AutoSeq1 (wpAny_loadPart')
theorem rW(l b:Addr)(items items2:Array Value)(n n2:Nat)(dd:Option Addr)(sl:Array (Option Value))(h0:¬(!items.isEmpty&&CF (items.size+items2.size))=true)(h1:items.size<=sizeLine)(h2:items.size+items2.size<=sizeLine+1):
  Meets (Builtin.«list.extend» ⟨[.ref l,.ref b],[]⟩) (λ_ R s=>s.heap.get? l=some {cls:=.type "list",dict:=none,data:=.seq items n,slots:= #[]}/\s.heap.get? b=some {cls:=.type "tuple",dict:=dd,data:=.seq items2 n2,slots:=sl}/\
   R (.ok (.ret B5)) {s with heap:=s.heap.update l (DU λx=>x++items2),toks:=s.toks}):=
 .of_wp λprog w A R s h=>by
  obtain⟨hp,g,d,tk,os⟩:=s;obtain⟨hl,hb,h⟩:=h
  have f1:=AutoSeq1.idx_int
  have f2:=AutoSeq1.sub_tuple_tuple
  have f3:=AutoSeq1.sub_list_list
  have f4:=AutoSeq1.sub_tuple_list
  have f5:=AutoSeq1.sub_list_tuple
  have hz:(items++items2).size<=sizeLine+1:=by rw[Array.size_append];exact h2
  wp_walk using(Em hl rfl (hz:=h1) (_hz':=hz)),wpAny_loadPart' hl,wpAny_loadPart' hb
  exact⟨_,rfl,h⟩
section
variable{X:Cx}
def NW(K:AD):V->List V->Hp->VK->Prop:=λx vs H Q=>∃l b xs zs,x=.ref l/\vs=[.ref b]/\H l=some (.lst xs)/\aZ K H b zs/\xs.length+zs.length<=sizeLine/\Q .non (upd H l (.lst (xs++zs)))
theorem JU(K:AD)(hK:X.K=K:=by rfl):xE X "list.extend" (NW K):=by
 subst hK
 intro pins s σ H x vs v us Q I rx rv h
 obtain⟨l,b,xs,zs,rfl,rfl,hH,hB,hz,q⟩:=h
 cases rx
 obtain⟨u,rfl,ru⟩:=rv.one
 cases ru
 obtain⟨z,its,n,r,hl,e⟩:=I.xF hH
 obtain⟨its2,r2,⟨⟨c2,dd2,da2,sl2⟩,e2,hc2,n2,hd2⟩,z2⟩:=I.tuple hB
 simp only at hc2 hd2
 subst hc2 hd2
 have lr2:=r2.length
 have hsz:its.toArray.size+its2.toArray.size<=sizeLine:=by rw[Ai,Ai];omega
 have JI:¬(!its.toArray.isEmpty&&CF (its.toArray.size+its2.toArray.size))=true:=by
  rw[xG hsz,EE]
  exact Am
 refine E6 F.slot_list_extend ⟨_,e,rfl⟩ F.entry_list_extend (F.args_list_extend_2 _ _)
  (rW l b its.toArray its2.toArray n n2 dd2 sl2 JI (by rw[Ai];omega) (by omega)) ⟨e,e2,?_⟩
 refine⟨.non,_,I.JH (its':=its++its2) hH e (by simp) (r.append r2) ?_,rfl,q⟩
 rw[AG]
 omega
end
theorem W3(x y:Str)(h:(!ltCps y.cps.toList x.cps.toList)=true):x.cps.toList<=y.cps.toList:=by
 rw[GQ] at h
 exact List.not_lt.mp (by simpa using h)
theorem kP:∀(l:List Str) (p:Str),risingS p l=true->∀y∈l,p.cps.toList<=y.cps.toList
 | [],p,_,y,hy=>by cases hy
 | x::l,p,h,y,hy=>by
  have h':(!ltCps x.cps.toList p.cps.toList&&risingS x l)=true:=h
  rw[Bg] at h'
  have h1:=W3 p x h'.1
  rcases Ac.mp hy with e | hy
  ·rw[e];exact h1
  ·exact List.le_trans h1 (kP l x h'.2 y hy)
theorem lL{x:Str}{l:List Str}(h:HQ (x::l)=true):HQ l=true:=by
 cases l with
 | nil=>rfl
 | cons y l=>
  have h':(!ltCps y.cps.toList x.cps.toList&&risingS y l)=true:=h
  rw[Bg] at h'
  exact h'.2
theorem Tt{x y:Str}(h:x.cps.toList=y.cps.toList):x=y:=by
 obtain⟨a⟩:=x
 obtain⟨b⟩:=y
 have:a=b:=Array.toList_inj.mp h
 rw[this]
theorem qt:∀{l m:List Str},HQ l=true->HQ m=true->l.Nodup->m.Nodup->(∀y,y∈l↔y∈m)->l=m
 | [],[],_,_,_,_,_=>rfl
 | [],y::m,_,_,_,_,h=>by have:=(h y).mpr AZ;cases this
 | x::l,[],_,_,_,_,h=>by have:=(h x).mp AZ;cases this
 | x::l,y::m,sl,sm,nl,nm,h=>by
  rw[B_] at nl nm
  have e:x=y:=by
   rcases Ac.mp ((h x).mp AZ) with e | hx
   ·exact e
   ·rcases Ac.mp ((h y).mpr AZ) with e | hy
    ·exact e.symm
    ·exact Tt (List.le_antisymm (kP l x sl y hy) (kP m y sm x hx))
  subst e
  rw[qt (lL sl) (lL sm) nl.2 nm.2 λz=>?_]
  constructor
  ·intro hz
   rcases Ac.mp ((h z).mp (AV _ hz)) with e | q
   ·exact absurd (e▸hz) nl.1
   ·exact q
  ·intro hz
   rcases Ac.mp ((h z).mpr (AV _ hz)) with e | q
   ·exact absurd (e▸hz) nm.1
   ·exact q
theorem jg:∀{l:List Str} {ss:List Str},l.Nodup->(∀y∈l,y∈ss)->l.length<=ss.length
 | [],ss,_,_=>BG _
 | x::l,ss,h,hs=>by
  rw[B_] at h
  have hx:=hs x AZ
  have:=jg (l:=l) (ss:=ss.erase x) h.2 λy hy=>(List.mem_erase_of_ne (λe:y=x=>h.1 (by rw[<-e];exact hy))).mpr (hs y (AV _ hy))
  rw[List.length_erase_of_mem hx] at this
  have hp:0<ss.length:=List.length_pos_of_mem hx
  rw[A4]
  omega
theorem qG(x:Str)(l:List Str):inV (.str x) (l.map V.str)=decide (x∈l):=by
 induction l with
 | nil=>rfl
 | cons y l ih=>
  unfold inV at ih ⊢
  rw[Ap,Cr,ih]
  show((y == x)||_)=_
  by_cases e:y=x
  ·simp[e]
  ·have e':¬x=y:=λz=>e z.symm
   simp[e,e']
end L2
namespace L2
open PySem PySem.Spec PyProof.Rows PySem.W PySem.Builtin PySem.Builtin.ObjectAttr
end L2
namespace HT
open PySem PySem.Spec PyProof.Rows
section
variable{prog:Ak}{w:World}{A:A9}{E:Value->AI->Prop}{s:AI}
theorem oB{t sl:Addr}{items:Array Value}{vl vu:Value}{lo hi:Option Int}{Q:Value->AI->Prop}(ht:IsTup s.heap t items)(hs:s.heap.IsSliceOf sl vl vu .none)(pl:FT vl lo)(pu:FT vu hi)
  (hw:br items.size 0 lo=0/\br items.size items.size hi=items.size) (h:Q (.ref t) s):wpAny (model prog w) A (EZ (.ref t) (.ref sl)) Q E s:=by
 obtain⟨os,hos,hcs,hds⟩:=id hs
 have hTs:s.TypeIs (.ref sl) "slice":=⟨os,hos,hcs⟩
 unfold EZ
 try with_reducible refine Bb ?_
 first | refine AA (AH ?_) | skip
 refine AA (wpAny_sequenceKey ht.typeIs (by decide) ?_)
 refine AA (BE (name:=By "__getitem__") ht.typeIs Bc
  (BJ Bc ht.typeIs entry_tuple_getitem ?_ (args_tuple_getitem _ _)))
 show wpAny _ _ (E3 (.ref t) >>= _) _ _ s
 refine AA (tupleItemsOf_ ht ?_)
 refine AA (Ck hTs ?_)
 rw[if_pos (by decide)]
 refine AA (j3 hs pl pu ?_)
 have hyes:(((br items.size 0 lo:Nat):Int) == 0&&(1:Int) == 1&&(br items.size items.size hi-br items.size 0 lo) == items.size)=true:=by
  rw[hw.1,hw.2];simp
 show wpAny _ _ (if(((br items.size 0 lo:Nat):Int) == 0&&(1:Int) == 1&&(br items.size items.size hi-br items.size 0 lo) == items.size)=true then _ else _) _ _ s
 rw[if_pos hyes]
 refine AA ?_
 unfold Builtin.Tuple.tupleIsExact
 refine AA (Ck ht.typeIs (AH ?_))
 rw[if_pos (by decide)]
 exact AA (Ca (AH ⟨_,rfl,AH h⟩))
end
end HT
namespace L2
open PySem PySem.Spec PyProof.Rows
section
variable{X:Cx}
def PB(K:AD):V->Option Int->Option Int->Hp->VK->Prop:=λx lo hi H Q=>∃a xs,x=.ref a/\aZ K H a xs/\
 ((HT.br xs.length 0 lo=0/\HT.br xs.length xs.length hi=xs.length)->Q (.ref a) H)/\
 (¬(HT.br xs.length 0 lo=0/\HT.br xs.length xs.length hi=xs.length)->∀p,H p=none->Q (.ref p) (upd H p (.tup (j4 xs lo hi))))
theorem Rf(K:AD)(hK:X.K=K:=by rfl):Iq X (PB K):=by
 subst hK
 intro pins s σ H x v vl vu lo hi sl Q I rx hs pl pu h
 obtain⟨a,xs,rfl,hx,hw,q⟩:=h
 by_cases c:HT.br xs.length 0 lo=0/\HT.br xs.length xs.length hi=xs.length
 ·cases rx
  obtain⟨its,r,ht,hz⟩:=I.tuple hx
  have hlen:its.toArray.size=xs.length:=by rw[Ai];exact r.length.symm
  refine⟨"tuple",_,Bc.lookup,ht.typeIs,?_⟩
  exact HT.oB ht hs pl pu (by rw[hlen];exact c) ⟨.ref a,H,I,rfl,hw c⟩
 ·exact SF pins s σ H _ v vl vu lo hi sl Q I rx hs pl pu ⟨a,xs,rfl,hx,c,q c⟩
theorem Tv{K:AD}:A5 K (.type "bool") (.type "bool")=some true:=by rfl
end
section
variable{X:Cx}{e:Expr}{lo hi:Option Expr}{st:Expr}{te:TE}{tl th tk:TO}{p2 pos:Pos}
def W4(K:AD)(x:V)(l u k:Option Int):Hp->VK->Prop:=λH Q=>∃a xs,l=none/\u=none/\k=some (-1)/\x=.ref a/\bz K H a xs/\∀p,H p=none->Q (.ref p) (upd H p (.lst xs.reverse))
def W5(K:AD)(te:TE)(tl th tk:TO):TE:=λσ H Q=>te σ H λx H1=>tl σ H1 λl H2=>th σ H2 λu H3=>tk σ H3 λk H4=>W4 K x l u k H4 Q
theorem Rg(K:AD)(he:PE X e te)(hl:PO X lo tl)(hu:PO X hi th)(hk:PO X (some st) tk)(hK:X.K=K:=by rfl):PE X (.Subscript e (.Slice lo hi (some st) p2) pos) (W5 K te tl th tk):=by
 subst hK
 intro pins s σ H Q I h
 refine Fu (aM (he pins s σ H _ I h) λv s1 ⟨x,H1,I1,r1,q1⟩=>?_)
 refine wpAny_Slice (aM (hl pins s1 σ H1 _ I1 q1) λvl s2 ⟨l,H2,I2,pl,q2⟩=>aM (hu pins s2 σ H2 _ I2 q2) λvu s3 ⟨u,H3,I3,pu,q3⟩=>aM (hk pins s3 σ H3 _ I3 q3) λvk s4 ⟨k,H4,I4,pk,q4⟩=>?_)
 obtain⟨a,xs,rfl,rfl,rfl,rfl,hx,q⟩:=q4
 cases pl
 cases pu
 cases pk with
 | int i t=>
  cases r1
  have I5:Inv X pins σ H4 {s4 with heap:=s4.heap.push {cls:=.type "slice",data:=.fields #[.none,.none,.int (-1) t]}}:=I4.kept (t':=s4.toks) λb ob q=>AE _ q
  obtain⟨its,r,ht,hz⟩:=I5.list hx
  have hlen:its.toArray.size=xs.length:=by rw[Ai];exact r.length.symm
  show wpAny (model X.prog X.w) X.A (Ea e (.Slice lo hi (some st) p2) (.ref a) (.ref s4.heap.objs.size)) (EP X pins σ Q) X.xe {s4 with heap:=s4.heap.push {cls:=.type "slice",data:=.fields #[.none,.none,.int (-1) t]}}
  refine tail_any (ops:=[.ref a,.ref s4.heap.objs.size]) ht.isList.typeIs list_getitem_lookup ?_ (by with_unfolding_all rfl)
  refine FU (lo:=none) (hi:=none) (st:=some (-1)) ht.isList (HG ..) .none .none (.int _ _) (by decide) ?_ (by rw[hlen];exact hz)
  rw[PySem.W.krv_pick]
  refine⟨.ref _,_,I5.laid (o:=.lst xs.reverse) (t':=s4.toks) (λ_ _ q=>AE _ q) (AM _) ?_,rfl,q _ (I5.hok.fresh (AM _))⟩
  exact⟨by rw[B8];exact hz,_,0,mf r,AO _ rfl⟩
end
def Its(x:Str):It:=⟨λi _=>i<x.cps.size,λi H y H'=>H'=H/\∃c,x.cps[i]? =some c/\y=.str ⟨#[c]⟩,λi _=>x.cps.size<=i⟩
theorem NX{P:Ak}{w:World}{K:AD}{tg:Expr}(it:Addr)(x:Str)(t:Tok):Turn P w K tg (Its x) [it] it (λi h=>h.IsStrIter it "str_ascii_iterator" x t i) where
 mem:=by simp
 obj:=λi h st b hb=>by
  have e:b=it:=by simpa using hb
  subst e
  obtain⟨o,e,c,d⟩:=st
  exact⟨o,e,λv z=>by rw[d] at z;cases z⟩
 keep:=λi h h' st k=>let ⟨o,ho,r⟩:=st;⟨o,k it (by simp) o ho,r⟩
 item:=by
  intro X hP hw hK hc i pins s σ H E I hf st hg
  subst hP hw hK
  obtain⟨f0,f1,f2,f3,f4,f5⟩:=hf it (by simp)
  have hg':i<x.cps.size:=hg
  refine wpAny_pyNext_ascii_item st (c:=x.cps[i]) (by simp[hg']) λh' st' sb=>?_
  have I1:Inv X pins σ H {s with heap:=h',toks:=s.toks+1}:=I.turned (λb o hb e=>(sb.2 b hb).trans e) f0 f1 f3 f4 f5
  obtain⟨o,e,c,d⟩:=id st'
  exact⟨_,rfl,xj (s:={s with heap:=h',toks:=s.toks+1}) e c d (by decide) ⟨.str ⟨#[x.cps[i]]⟩,H,I1,⟨_,rfl⟩,⟨rfl,_,by simp[hg'],rfl⟩,st',λb hb=>(hf b hb).1⟩⟩
 done:=by
  intro X hP hw hK hc i pins s σ H E I hf st hg
  subst hP hw hK
  obtain⟨f0,f1,f2,f3,f4,f5⟩:=hf it (by simp)
  have hg':x.cps.size<=i:=hg
  exact wpAny_pyNext_ascii_end (I.ok.hd hc) st (by simp[hg']) λh' eb=>⟨rfl,I.turned (t':=s.toks) (λb o hb e=>eb b o hb e) f0 f1 f3 f4 f5⟩
 self:=λ_ _ _ _ _ st h=>wpAny_pyIter_striter_ascii st h
def ZI(tl:TE):TI:=λσ H R=>tl σ H λx H1=>∃z:Str,x=.str z/\z.cps.all (· <128)=true/\R (Its z) H1
section
variable{X:Cx}{tg:Expr}
theorem Tw{l:Expr}{tl:TE}(hl:PE X l tl):PI X tg l (ZI tl):=by
 intro pins s σ H R I h
 refine aM (hl pins s σ H _ I h) λv s1 ⟨x,H1,I1,r1,q1⟩=>?_
 obtain⟨z,rfl,ha,q⟩:=q1
 obtain⟨t,rfl⟩:=r1
 refine wpAny_pyIter_ascii ha ?_
 refine⟨s1.heap.objs.size,[s1.heap.objs.size],_,_,H1,rfl,I1.kept (t':=s1.toks) λb o e=>AE _ e,NX _ z t,⟨_,AO _ rfl,rfl,rfl⟩,λb hb=>?_,q⟩
 have e:b=s1.heap.objs.size:=by simpa using hb
 subst e
 exact I1.jZ (AM _) (I1.hok.fresh (AM _))
end
theorem Rh{z:Str}{g:TG}{tb:TS}{D:Ends}{σ:St}{H:Hp}(Pv:Nat->St->Hp->Prop)(h0:Pv 0 σ H)
  (hs:∀i c σ H,z.cps[i]? =some c->Pv i σ H->g (.str ⟨#[c]⟩) σ H λσ2 H2=>tb {D with nx:=Pv (i+1),ct:=Pv (i+1),bk:=D.nx} σ2 H2) (hd:∀σ H,Pv z.cps.size σ H->D.nx σ H):
  ∃W:Nat->Nat->St->Hp->Prop,(∃m,W 0 m σ H)/\∀i m σ H,W i m σ H->
   ((Its z).stop i H/\D.nx σ H)∨((Its z).go i H/\∃N:St->Hp->Prop,(∀σ' H',N σ' H'->∃m',m'<m/\W (i+1) m' σ' H')/\∀x H',(Its z).rE i H x H'->g x σ H' λσ2 H2=>tb {D with nx:=N,ct:=N,bk:=D.nx} σ2 H2):=by
 refine⟨λi m σ H=>m=z.cps.size-i/\i<=z.cps.size/\Pv i σ H,⟨z.cps.size,by simp,BG _,h0⟩,?_⟩
 rintro i m σ H ⟨rfl,hi,p⟩
 by_cases hlt:i<z.cps.size
 ·refine .inr ⟨hlt,Pv (i+1),λσ' H' p'=>⟨z.cps.size-(i+1),by omega,rfl,hlt,p'⟩,λx H' y=>?_⟩
  obtain⟨rfl,c,hc,rfl⟩:=y
  exact hs i c σ _ hc p
 ·have e:i=z.cps.size:=by omega
  subst e
  exact .inl ⟨AM _,hd _ _ p⟩
section
variable{X:Cx}{e:Expr}{lo hi:Option Expr}{st:Expr}{te:TE}{tl th tk:TO}{p2 pos:Pos}
def oQ(x:Str):Str:=⟨x.cps.reverse⟩
theorem picked_rev(x:Str)(t:Tok):((slicePicked x none none (some (-1,t))).filterMap (x.cps[·]?)).toArray=x.cps.reverse:=by
 have e:slicePicked x none none (some (-1,t))=(BM x.cps.size).reverse:=by
  have h:slicePicked x none none (some (-1,t))=sliceRange ((x.cps.size:Int)-1) (-1) (-1):=rfl
  rw[h,PySem.W.krv_sliceRange,PySem.W.krv_range]
 rw[e,List.filterMap_reverse,PySem.W.krv_all,<-Array.toList_reverse]
def W6(x:V)(l u k:Option Int):Hp->VK->Prop:=λH Q=>∃z:Str,l=none/\u=none/\k=some (-1)/\x=.str z/\z.length<=sizeLine/\Q (.str (oQ z)) H
def W7(te:TE)(tl th tk:TO):TE:=λσ H Q=>te σ H λx H1=>tl σ H1 λl H2=>th σ H2 λu H3=>tk σ H3 λk H4=>W6 x l u k H4 Q
theorem Ri(he:PE X e te)(hl:PO X lo tl)(hu:PO X hi th)(hk:PO X (some st) tk):PE X (.Subscript e (.Slice lo hi (some st) p2) pos) (W7 te tl th tk):=by
 intro pins s σ H Q I h
 refine Fu (aM (he pins s σ H _ I h) λv s1 ⟨x,H1,I1,r1,q1⟩=>?_)
 refine wpAny_Slice (aM (hl pins s1 σ H1 _ I1 q1) λvl s2 ⟨l,H2,I2,pl,q2⟩=>aM (hu pins s2 σ H2 _ I2 q2) λvu s3 ⟨u,H3,I3,pu,q3⟩=>aM (hk pins s3 σ H3 _ I3 q3) λvk s4 ⟨k,H4,I4,pk,q4⟩=>?_)
 obtain⟨z,rfl,rfl,rfl,rfl,hz,q⟩:=q4
 cases pl
 cases pu
 cases pk with
 | int i t=>
  obtain⟨t0,rfl⟩:=r1
  have I5:Inv X pins σ H4 {s4 with heap:=s4.heap.push {cls:=.type "slice",data:=.fields #[.none,.none,.int (-1) t]}}:=I4.kept (t':=s4.toks) λb ob q=>AE _ q
  show wpAny (model X.prog X.w) X.A (Ea e (.Slice lo hi (some st) p2) (.str z t0) (.ref s4.heap.objs.size)) (EP X pins σ Q) X.xe {s4 with heap:=s4.heap.push {cls:=.type "slice",data:=.fields #[.none,.none,.int (-1) t]}}
  refine tail_any (ops:=[.str z t0,.ref s4.heap.objs.size]) (E5 _ _ _) FX.lookup ?_ (by with_unfolding_all rfl)
  refine wpAny_getItem_str_slice (l:=none) (u:=none) (st:=some (-1,t)) ⟨_,AO _ rfl,rfl,rfl⟩ rfl ?_
  have e1:sliceMade z t0 none none (some (-1,t))=.str (oQ z):=by
   unfold sliceMade
   rw[picked_rev]
   rfl
  rw[e1]
  exact⟨by show z.cps.reverse.size<=sizeLine;rw[Array.size_reverse];exact hz,⟨.str _,H4,I5.tok _,⟨_,rfl⟩,q⟩⟩
end
section
variable{X:Cx}
def Tx:V->List V->Hp->VK->Prop:=λx vs H Q=>∃(z y:Str) (i:Nat) (rest:List Nat),x=.str z/\vs=[.str y]/\Fm z y 0 z.length 1=i::rest/\Q (.int (i:Nat)) H
theorem NY:xE X "str.index" Tx:=by
 intro pins s σ H x vs v us Q I rx rv h
 obtain⟨z,y,i,rest,rfl,rfl,ho,q⟩:=h
 obtain⟨t,rfl⟩:=rx
 obtain⟨u,rfl,ru⟩:=rv.one
 obtain⟨t2,rfl⟩:=ru
 exact call_gives Fz (E5 _ _ _) PySem.F.entry_str_index (PySem.F.args_str_index_2 _ _) (gives_str_index z y t t2 i rest ho) ⟨.int _,H,I.tok _,⟨_,rfl⟩,q⟩
theorem Rj:dm X (CU .Mult) (λx y H Q=>∃(z:Str) (n:Int),x=.str z/\y=.int n/\0<=n/\n<=1000/\z.length<=1000/\Q (.str (Txt.mul z n)) H):=by
 intro pins s σ H x y v u Q I rx ry h
 obtain⟨z,n,rfl,rfl,h0,h1,h2,q⟩:=h
 obtain⟨t,rfl⟩:=rx
 obtain⟨t',rfl⟩:=ry
 refine SB.mul ⟨?_,?_,?_⟩ λt' k=>⟨.str _,H,I.tok k,⟨t',rfl⟩,q⟩
 ·have a:¬n< -(2 ^ 63:Int):=by omega
  have b:¬n ≥ 2 ^ 63:=by omega
  simp only[a,b,decide_false,Bool.or_self]
 ·intro a b c
  have e:(1000:Int)<=(2 ^ 63-1) / n:=by
   rw[Int.le_ediv_iff_mul_le (by omega)]
   omega
  omega
 ·intro a b
  have h3:z.length*n.toNat<=1000*1000:=Gq h2 (by omega)
  have h4:(1000*1000:Nat)<=sizeLine:=by decide
  exact decide_eq_false (by omega)
end
section
variable{prog:Ak}{w:World}{A:A9}{E:Value->AI->Prop}{s:AI}
theorem bh{h h':Heap}{it t b:Addr}{i:Nat}(x:h.IsTupleIter it t i)(sb:D9 b h h')(n:it≠b):h'.IsTupleIter it t i:=let ⟨o,ho,r⟩:=x;⟨o,sb _ _ n ho,r⟩
theorem cY{h h':Heap}{t b:Addr}{ys:Array Value}(x:h.IsTuple t ys)(sb:D9 b h h')(n:t≠b):h'.IsTuple t ys:=let ⟨o,ho,r⟩:=x;⟨o,sb _ _ n ho,r⟩
abbrev itL (l:Addr):Obj:={cls:=.type "list_iterator",data:=.fields #[.ref l,.int 0 0]}
abbrev oR (l:Addr):Obj:={cls:=.type "tuple_iterator",data:=.fields #[.ref l,.int 0 0]}
end
structure gX (ps aI:List Str)(scope:Scope):Prop where
 kind:scope.kind=.function
 co:scope.isCoroutine=false
 gen:scope.isGenerator=false
 Lr:∀x∈scope.names,x.2≠.cell
 par:∀x∈ps,scope.names.lookup x=some .local
 free:∀x∈aI,scope.names.lookup x=some .free
 only:∀x,scope.names.lookup x=some .free->x∈aI
 nd:(ps++aI).Nodup
structure iP (h:Heap)(cl:List (Str×Addr))(aI:List Str)(fvs:List V):Prop where
 inj:∀x y c,cl.lookup x=some c->cl.lookup y=some c->x=y
 cell:∀x c,cl.lookup x=some c->∃v,h.IsCell c v
 vals:Bv (λx v=>∃c u,cl.lookup x=some c/\h.IsCell c (some u)/\RelV v u) aI fvs
def Ls(P:Ak)(w:World)(K:AD)(mg:Str->Option Value)(base:Heap)(N:List Str)(qual:Str)(scope:Scope)(f:Addr)(cd:Value)(cl:List (Str×Addr))(A:A9)(outer:List Env)(s:AI)(H:Hp):Cx where
 prog:=P
 w:=w
 K:=K
 mg:=mg
 base:=base
 A:=A.deeper (CN qual scope s.heap.objs.size f cd cl)
 N:=N
 s₀:=s
 H₀:=H
 env:=CN qual scope s.heap.objs.size f cd cl
 outer:=outer
 stack:=CN qual scope s.heap.objs.size f cd cl::outer
 ex:=[]
 calm:=true
 fn:=λ_=>false
 pn:=[]
 xe:=λ_ _=>False
theorem IG{ps:List Str}{us:List Value}(nd:ps.Nodup)(hl:ps.length<=us.length){i:Nat}{y:Str}{u:Value}(hp:ps[i]? =some y)(hu:us[i]? =some u):(ps.zip us).reverse.lookup y=some u:=by
 have hm:(y,u)∈(ps.zip us).reverse:=by
  rw[DZ]
  refine AL (i:=i) ?_
  rw[List.getElem?_zip_eq_some]
  exact⟨hp,hu⟩
 have hn:((ps.zip us).reverse.map (·.1)).Nodup:=by
  rw[Fn]
  refine(List.reverse_perm _).nodup_iff.mpr ?_
  rw[List.map_fst_zip hl]
  exact nd
 generalize (ps.zip us).reverse=l at hm hn
 induction l with
 | nil=>cases hm
 | cons p l ih=>
  rw[Ap,B_] at hn
  rcases Ac.mp hm with e | e
  ·subst e;exact List.lookup_cons_self
  ·have:y≠p.1:=λz=>hn.1 (by rw[<-z];exact A1.mpr ⟨_,e,rfl⟩)
   obtain⟨a,b⟩:=p
   rw[Cy,show(y == a)=false from beq_false_of_ne this]
   exact ih e hn.2
theorem dj{α β:Type}{F:α->β->Prop}:∀{l:List α} {m:List β} {i:Nat} {a:α},Bv F l m->l[i]? =some a->∃b,m[i]? =some b/\F a b
 | _,_,_,_,.nil,h=>by simp at h
 | _,_,0,_,.cons r _,h=>by simp at h;subst h;exact⟨_,rfl,r⟩
 | _,_,i+1,_,.cons _ t,h=>by
  simp only[B3] at h ⊢
  exact dj t h
theorem Rk{P:Ak}{w:World}{K:AD}{mg:Str->Option Value}{base:Heap}{ps aI:List Str}{qual:Str}{scope:Scope}{f:Addr}{cd:Value}{cl:List (Str×Addr)}{A:A9}{outer:List Env}{s:AI}{H:Hp}{us:List Value}{vs fvs:List V}{h1:Heap}{fo:Obj}{tk:Nat}
  (S:gX ps aI scope) (hd:A.handled=none) (e0:qA P w K mg base A outer s H) (hl:vs.length=ps.length) (r:Vals vs us) (C:iP base cl aI fvs)
  (hns:h1.Ns s.heap.objs.size λx=>(ps.zip us).reverse.lookup x) (hsb:B6 s.heap.objs.size (s.heap.push fo) h1):
  Inv (Ls P w K mg base (ps++aI) qual scope f cd cl A outer s H) [] (vs.map some++fvs.map some) H {s with heap:=h1,toks:=tk}:=by
 have hk:∀b o,s.heap.get? b=some o->h1.get? b=some o:=λb o e=>hsb.extBut b o (Ae (AN e)) (AE _ e)
 have hkb:∀b o,base.get? b=some o->h1.get? b=some o:=λb o e=>hk b o (e0.bs b o e).1
 have kI:∀b:Addr,b ∉ (Ls P w K mg base (ps++aI) qual scope f cd cl A outer s H).ex:=λb z=>absurd (show b∈([]:List Addr) from z) (by simp)
 have lf:aI.length=fvs.length:=AX C.vals
 refine⟨⟨e0.mod,S.kind,rfl,rfl,AM _,C.inj,λy hy=>?_,λy c z=>(nomatch z),λ_=>hd,Ef e0.frames,.inr ⟨rfl,rfl⟩,λb z=>absurd z (kI b),e0.bs,e0.oE,λb _ _=>kI b,λb z=>absurd z (kI b),e0.ic,e0.uN⟩,
  rfl,e0.bare,Un.kept hk,⟨_,hns,λi y v h1' h2 h3=>?_⟩,λy c h=>?_,e0.hok.fresh (AM _),λy c h=>?_,λp hp=>absurd (show p∈([]:List (Addr×Obj)) from hp) (by simp),e0.hok.kept hk,?_⟩
 ·have hy:scope.names.lookup y=some .cell∨scope.names.lookup y=some .free:=hy
  rcases hy with hy | hy
  ·exact absurd rfl (S.Lr _ (BF hy))
  ·have hm:=S.only y hy
   obtain⟨i,hi⟩:=BH hm
   obtain⟨v,_,c,u,hc,_⟩:=dj C.vals hi
   exact⟨c,hc⟩
 ·have iu:(ps++aI)[i]? =some y:=h1'
  by_cases hi:i<ps.length
  ·rw[An hi] at iu
   rw[An (by rw[AB];omega),AW] at h2
   obtain⟨v',hv',e⟩:=Bh.mp h2
   have e':v'=v:=AS e
   subst e'
   obtain⟨u,hu,rv⟩:=r.get hv'
   have Il:ps.Nodup:=(B7.mp S.nd).1
   exact⟨u,rv,.inl ⟨S.par y (AL iu),IG Il (by rw[<-hl,r.length];exact AM _) iu hu⟩⟩
  ·rw[Aj (by omega)] at iu
   rw[Aj (by rw[AB];omega),AB,hl,AW] at h2
   obtain⟨v',hv',e⟩:=Bh.mp h2
   have e':v'=v:=AS e
   subst e'
   obtain⟨v2,hv2,c,u,hc,⟨o,ho,hd'⟩,rv⟩:=dj C.vals iu
   rw[hv'] at hv2
   cases hv2
   exact⟨u,rv,.inr ⟨.inr (S.free y (AL iu)),c,hc,o,hkb _ _ ho,hd'⟩⟩
 ·obtain⟨v,o,ho,hd'⟩:=C.cell y c h
  exact⟨v,o,hkb _ _ ho,hd'⟩
 ·obtain⟨v,o,ho,hd'⟩:=C.cell y c h
  exact(e0.bs c o ho).2
 ·show _=(ps++aI).length
  rw[AG,AB,AB,AG,hl,lf]
theorem Tz{P:Ak}{w:World}{K:AD}{mg:Str->Option Value}{base:Heap}{k:Nat}{f c':Addr}{name qual:Str}{params:CP}{body:Expr}{scope:Scope}{cl:List (Str×Addr)}{pm ctv:Value}{ps aI:List Str}{fvs:List V}{sp:Sp}
  (ho:base.get? f=some (PySem.W.kla_obj name qual params body scope cl pm c' ctv)) (xY:base.CodeRec (.ref c') qual) (S:gX ps aI scope) (C:iP base cl aI fvs) (len:∀vs H Q E,sp vs H Q E->vs.length=ps.length)
  (hbody:∀(A:A9) (outer:List Env) (s:AI) (H:Hp) (vs:List V) (Q:VK) (E:XK),aP k (A.deeper (CN qual scope s.heap.objs.size f (.ref c') cl))->sp vs H Q E->
   ∃t,PE (Ls P w K mg base (ps++aI) qual scope f (.ref c') cl A outer s H) body t/\t (vs.map some++fvs.map some) H Q):
  aR P w K mg base bj (k+1) f (PySem.W.kla_fn name qual params body scope cl pm (.ref c') ctv) ps sp:=by
 refine⟨len,λA outer s H args us vs Q E hr e0 hb r hsp=>?_⟩
 have hl:=len _ _ _ _ hsp
 have lim:s.heap.NoLimit:=e0.mod.nolimit.keeps λb o e=>(e0.bs b o e).1
 have NZ:s.heap.CodeRec (.ref c') qual:=by
  obtain⟨c,oc,vs',tq,hc,hoc,hdc,hq⟩:=xY
  exact⟨c,oc,vs',tq,hc,(e0.bs _ _ hoc).1,hdc,hq⟩
 refine PySem.W.kla_callFunE hr.depth (e0.bs _ _ ho).1 rfl S.co S.gen rfl NZ (hb _ _ _ _ ?_)
 have hloc:∀y∈ps.zip us,scope.names.lookup y.1=some .local:=λ⟨n,v⟩ hy=>S.par n (DE hy).1
 refine wpAny_newFunctionEnv S.Lr hloc (λh₁ hns hsb=>⟨lim.fresh _ hsb,?_⟩) S.kind
 obtain⟨t,ht,hq⟩:=hbody A outer s H vs Q E (hr.deeper _) hsp
 have I:Inv (Ls P w K mg base (ps++aI) qual scope f (.ref c') cl A outer s H) [] (vs.map some++fvs.map some) H {s with heap:=h₁,toks:=s.toks+(ps.zip us).length}:=Rk S hr.hd e0 hl r C hns hsb
 refine PySem.W.kla_codeExpr (Bi (ht [] _ _ H _ I hq) (λv s' hs=>?_) λe s' hs=>hs.elim)
 obtain⟨x,H',J,rv,q⟩:=hs
 exact⟨x,H',J.os,J.bare,J.base,J.hok,rv,q⟩
section
variable{X:Cx}{x:Str}{p pos:Pos}{e:Expr}{es:List Expr}{t:TA}{k:Nat}{f:Addr}{fd:Aw}{ps:List Str}{sp:Sp}
def TC(i:Nat)(f:Addr)(sp:Sp)(t:TA):TE:=λσ H Q=>σ[i]? =some (some (.ref f))/\t σ H λvs H1=>sp vs H1 Q E0
theorem qH(F:aR X.prog X.w X.K X.mg X.base bj k f fd ps sp){i:Nat}{o:Obj}(ho:X.base.get? f=some o)(hof:o.data=.func fd)(hr:aP k X.A)(hb:∀us:List Value,us.length=ps.length->Gf fd ⟨us,[]⟩=pure (ps.zip us))
  (hN:X.N[i]? =some x) (hv:Ia X.env.scope x) (ha:PA X (e::es) t) (hdb:(x == ("__debug__":Str))=false:=by decide) (hcd:(x == ("__classdict__":Str))=false:=by decide)
  (he:BC (e::es) X.env=(false,eval e X.env)::BC es X.env:=by rfl) (hpl:(D_ pos (BC es X.env)).any (·.1)=false:=by rfl):
  PE X (.Call (.Name x p) (e::es) [] pos) (TC i f sp t):=by
 intro pins s σ H Q I h
 obtain⟨hi,h⟩:=h
 obtain⟨m,hn,hl⟩:=I.loc
 obtain⟨u,r,l⟩:=hl i x (.ref f) hN hi hv
 obtain rfl:u=BI f:=r
 have fin:wpAny (model X.prog X.w) X.A (callWith pos (.ref f) [] (D_ pos (BC (e::es) X.env)) []) (EP X pins σ Q) X.xe s:=by
  have h0:wpAny (model X.prog X.w) X.A (spliced (D_ pos (BC (e::es) X.env))) (λus s₁=>s₁.heap.get? f=some o/\wpAny (model X.prog X.w) X.A (call (.ref f) ([]++us)) (EP X pins σ Q) X.xe s₁) X.xe s:=by
   refine aM (ha pos pins s σ H _ I h) λus s1 ⟨vs,H1,I1,r,q⟩=>⟨I1.bk _ _ ho,?_⟩
   exact KW (ds:=[]) (rK:=[]) F hr (Binds.all hb) .nil aK I1 r (by rw[BS];exact q)
  rw[he] at h0 ⊢
  refine PySem.W.callWith_of (P:=λh=>h.get? f=some o) ?_ (λh hf=>⟨.frame,.inl rfl,(PySem.W.Looks.ld (part:=none) hf).andThen ?_⟩) (DT h0)
  ·show((false||(D_ pos (BC es X.env)).any (·.1))||false)=false
   rw[hpl];rfl
  ·rw[hof]
   exact .now
 rcases l with⟨hk,hm⟩ | ⟨hk,c,hc,hcell⟩
 ·exact B0 (Ey (wpAny_loadName_local I.ok.kind hk hn hm fin) hdb)
 ·rcases hk with hk | hk
  ·exact B0 (Ey (wpAny_loadName_cell I.ok.kind hk hc hcell fin) hdb)
  ·exact B0 (Ey (wpAny_loadName_free I.ok.kind hk hc hcell fin hcd) hdb)
end
def kQ(f:Addr)(o:Obj):HO:=.ext λh=>h.get? f=some o
def kS(c:Addr)(qual:Str):HO:=.ext λh=>h.CodeRec (.ref c) qual
section
variable{P:Ak}{w:World}{H:Hp}{h:Heap}
theorem rX{f:Addr}{o:Obj}(e:h.get? f=some o):bM P w H h f (kQ f o):=
 ⟨e,⟨o,e⟩,λh1 h2 q k=>k o q⟩
theorem Lu{c:Addr}{qual:Str}(e:h.CodeRec (.ref c) qual):bM P w H h c (kS c qual):=by
 refine⟨e,?_,λh1 h2 q k=>?_⟩
 ·obtain⟨c',o,vs,t,e1,e2,_⟩:=e
  cases e1
  exact⟨o,e2⟩
 ·obtain⟨c',o,vs,t,e1,e2,r⟩:=q
  cases e1
  exact⟨c,o,vs,t,rfl,k o e2,r⟩
end
def Tab(H:Hp)(T:Addr)(L:List (Pos×Str)):Prop:=
 ∃ps:Array Value,H T=some (.gw ps)/\G0 ps.toList/\∀p∈L,C1 p.1 ps.toList=none∨∃c,C1 p.1 ps.toList=some (.ref c)/\H c=some (kS c p.2)
theorem Tab.same{H H':Hp}{T:Addr}{L:List (Pos×Str)}(x:Tab H T L)(s:Same H H'):Tab H' T L:=by
 obtain⟨ps,h1,h2,h3⟩:=x
 refine⟨ps,s _ _ h1,h2,λp hp=>?_⟩
 rcases h3 p hp with z | ⟨c,z,q⟩
 ·exact .inl z
 ·exact .inr ⟨c,z,s _ _ q⟩
theorem JV{p q:Pos}{c:Value}:∀(l:List Value),G0 l->∀d,C1 p (l++[Aq q.line,Aq q.col,c])=some d->C1 p l=some d∨(C1 p l=none/\p.line=q.line/\p.col=q.col/\d=c):=by
 intro l
 fun_induction G0 l with
 | case1=>
  intro _ d h
  simp only[List.nil_append,C1,Aq] at h
  split at h
  ·rename_i hc
   simp at hc
   cases h
   exact .inr ⟨rfl,by omega,by omega,rfl⟩
  ·cases h
 | case2 a t b u x rest ih=>
  intro hl d h
  simp only[Ff,C1] at h ⊢
  split at h
  ·rename_i hc;rw[if_pos hc];exact .inl h
  ·rename_i hc;rw[if_neg hc];exact ih hl d h
 | case3 l h1 h2=>intro h;exact h.elim
def Apart(L:List (Pos×Str)):Prop:=∀p∈L,∀q∈L,p.1.line=q.1.line->p.1.col=q.1.col->p=q
theorem Tab.grown{H H':Hp}{T c':Addr}{L:List (Pos×Str)}{ps:Array Value}{q:Pos×Str}(hq:q∈L)(ap:Apart L)(h2:G0 ps.toList)(h3:∀p∈L,C1 p.1 ps.toList=none∨∃c,C1 p.1 ps.toList=some (.ref c)/\H c=some (kS c p.2))
  (hT:H' T=some (.gw (ps++ #[Aq q.1.line,Aq q.1.col,.ref c']))) (hc:H' c'=some (kS c' q.2)) (k:∀b φ,H b=some (.ext φ)->H' b=some (.ext φ)):Tab H' T L:=by
 have e:(ps++ #[Aq q.1.line,Aq q.1.col,.ref c']).toList=ps.toList++[Aq q.1.line,Aq q.1.col,.ref c']:=by simp
 refine⟨_,hT,by rw[e];exact TriplesOk_snoc _ _ _ _ h2,λp hp=>?_⟩
 rw[e]
 cases z:C1 p.1 (ps.toList++[Aq q.1.line,Aq q.1.col,.ref c']) with
 | none=>exact .inl rfl
 | some d=>
  rcases JV _ h2 d z with y | ⟨_,y1,y2,y3⟩
  ·rcases h3 p hp with n | ⟨c,n,r⟩
   ·rw[n] at y;cases y
   ·rw[n] at y;cases y
    exact .inr ⟨c,rfl,k _ _ r⟩
  ·have:=ap p hp q hq y1 y2
   subst this
   subst y3
   exact .inr ⟨c',rfl,hc⟩
section
variable{X:Cx}{pos:Pos}{params:CP}{body:Expr}{scope:Scope}{c T:Addr}{clos:List (Str×Addr)}{L:List (Pos×Str)}{bm:Addr}{ob:Obj}
abbrev lamO (X:Cx)(params:CP)(body:Expr)(scope:Scope)(clos:List (Str×Addr))(c':Addr)(ctv:Value):Obj:=PySem.W.kla_obj "<lambda>" (X.env.qual++"<lambda>") params body scope clos ((X.mg "__name__").getD .none) c' ctv
def TF(X:Cx)(params:CP)(body:Expr)(scope:Scope)(clos:List (Str×Addr))(T:Addr)(L:List (Pos×Str)):TE:=λσ H Q=>
 Tab H T L/\∀f c' ctv H',H f=none->H' f=some (kQ f (lamO X params body scope clos c' ctv))->H' c'=some (kS c' (X.env.qual++"<lambda>"))->Tab H' T L->KB T H H'->Q (.ref f) H'
def fq(mg:Str->Option Value)(base:Heap):Prop:=
 ∃bm o,mg "__builtins__"=some (.ref bm)/\bm≠Fq/\base.get? bm=some o/\o.cls=.type "module"/\o.dict=some Fq/\o.data=.plain
theorem TH(hcode:X.env.code=.ref c)(C:DV X.base c T)(hB:fq X.mg X.base)(hcl:E7 scope X.env=pure clos)(hdef:defaultsOf params X.env=([],[]))(hL:(pos,X.env.qual++"<lambda>")∈L)(ap:Apart L)(hfs:X.ex=[]):
  PE X (.Lambda params body scope pos) (TF X params body scope clos T L):=by
 intro pins s σ H Q I ⟨⟨ps,hT,ht,htab⟩,h⟩
 refine PySem.W.kla_eval hdef ?_
 have rY:s.heap.get? T=some (Ba ps):=I.hok T _ hT
 have hg:s.heap.Ns AU X.mg:=I.ok.mod.glob.keeps I.bk
 have TJ:AU≠T:=λq=>by
  obtain⟨o,es,ep,e,hd,_⟩:=hg
  rw[q,rY] at e;cases e;cases hd
 have xZ:s.heap.BuiltinsAt X.mg T:=by
  obtain⟨bm,o,h1,h2,h3,h4,h5,h6⟩:=hB
  refine⟨bm,o,h1,h2,λq=>?_,λq=>?_,I.bk _ _ h3,h4,h5,h6⟩
  ·obtain⟨o',es,ep,e,hd,_⟩:=I.ok.mod.glob
   rw[q,e] at h3;cases h3;rw[hd] at h6;cases h6
  ·have:=I.bk _ _ h3
   rw[q,rY] at this;cases this;cases h4
 have Lv:=C.keeps I.bk
 rcases htab _ hL with hn | ⟨c',hc',TK⟩
 ·refine PySem.W.kla_makeFunction (mg:=X.mg) hcl I.ok.glob hg hcode Lv rY ht hn TJ xZ λc' ctv h' tk hx hge hlt hrec htb=>?_
  have nc:H c'=none:=I.hok.fresh hge
  have Lw:s.heap.objs.size<=h'.objs.size:=Bx (A7 hge hlt)
  have nf:H h'.objs.size=none:=I.hok.fresh Lw
  have fc:h'.objs.size≠c':=Bo hlt
  have Tc:T≠c':=ak hT nc
  have Tf:T≠h'.objs.size:=ak hT nf
  have fT:=DM Tf
  have cT:=DM Tc
  have keep:∀b o,b≠T->s.heap.get? b=some o->(h'.push (lamO X params body scope clos c' ctv)).get? b=some o:=λb o hb e=>AE _ (hx b o hb e)
  let H':Hp:=upd (upd (upd H T (.gw (ps++ #[Aq pos.line,Aq pos.col,.ref c']))) c' (kS c' (X.env.qual++"<lambda>"))) h'.objs.size (kQ h'.objs.size (lamO X params body scope clos c' ctv))
  have eT:H' T=some (.gw (ps++ #[Aq pos.line,Aq pos.col,.ref c'])):=by show upd _ _ _ _=_;rw[ao Tf,ao Tc,af]
  have ec:H' c'=some (kS c' (X.env.qual++"<lambda>")):=by show upd _ _ _ _=_;rw[ao fc.symm,af]
  have ef:H' h'.objs.size=some (kQ h'.objs.size (lamO X params body scope clos c' ctv)):=af
  have eo:∀b,b≠T->b≠c'->b≠h'.objs.size->H' b=H b:=λb h1 h2 h3=>by show upd _ _ _ _=_;rw[ao h3,ao h2,ao h1]
  have kb:KB T H H':=λb o e hb=>by rw[eo b hb (ak e nc) (ak e nf)];exact e
  have hnew:∀b o,s.heap.get? b=some o->b≠c'/\b≠h'.objs.size:=λb o e=>⟨Ae (AY (AN e) hge),Ae (AY (AN e) Lw)⟩
  have TL:=Tab.grown (H:=H) (H':=H') hL ap ht htab eT ec λb φ e=>kb b _ e λz=>by rw[z,hT] at e;cases e
  have hok':cV X.prog X.w H' (h'.push (lamO X params body scope clos c' ctv)):=λb u e=>by
   by_cases b1:b=T
   ·subst b1
    rw[eT] at e;cases e
    exact AE _ htb
   by_cases b2:b=c'
   ·subst b2
    rw[ec] at e;cases e
    exact Lu (hrec.push _)
   by_cases b3:b=h'.objs.size
   ·subst b3
    rw[ef] at e;cases e
    exact rX (AO _ rfl)
   rw[eo b b1 b2 b3] at e
   refine(I.hok b u e).stay (λd v hd q=>keep d v ?_ q) (λd q=>kb d _ q ?_) λd xs q=>kb d _ q ?_
   ·rintro rfl
    rcases hd with z | z
    ·exact b1 z.symm
    ·rw[hT] at z;cases z
   ·rintro rfl;rw[hT] at q;cases q
   ·rintro rfl;rw[hT] at q;cases q
  refine⟨.ref h'.objs.size,H',?_,rfl,h _ _ _ _ nf ef ec TL kb⟩
  have ne_T:∀b,H b=none->b≠T:=λb n z=>by rw[z,hT] at n;cases n
  refine I.un ⟨λb o e n _ _=>keep b o (ne_T b n) e,λb o e n _ _=>⟨o.slots,keep b o (ne_T b n) e⟩,λb o e n _=>by rw[eo b (ne_T b n) (hnew b o e).1 (hnew b o e).2];exact n,λb o e _=>?_,λb xs e=>kb b _ e λz=>?_,λb o u e=>kb b _ e λz=>?_,λb qs e=>?_⟩ hok'
  ·by_cases hb:b=T
   ·subst hb;exact⟨_,AE _ htb⟩
   ·exact⟨o,keep b o hb e⟩
  ·rw[z,hT] at e;cases e
  ·rw[z,hT] at e;cases e
  ·by_cases hb:b=T
   ·subst hb
    rw[hT] at e;cases e
    exact⟨_,eT⟩
   ·exact⟨#[],by rw[kb b _ e hb];simp⟩
 ·refine PySem.W.kla_makeFunctionHit (mg:=X.mg) hcl I.ok.glob hg hcode Lv rY ht hc' xZ λctv h' tk hk hsz=>?_
  have nf:H h'.objs.size=none:=I.hok.fresh hsz
  have keep:∀b o,s.heap.get? b=some o->(h'.push (lamO X params body scope clos c' ctv)).get? b=some o:=λb o e=>AE _ (hk b o e)
  have kb:Same H (upd H h'.objs.size (kQ h'.objs.size (lamO X params body scope clos c' ctv))):=λb o e=>by rw[ao (ak e nf)];exact e
  refine⟨.ref h'.objs.size,upd H h'.objs.size (kQ h'.objs.size (lamO X params body scope clos c' ctv)),I.laid keep hsz (rX (AO _ rfl)),rfl,h _ c' ctv _ nf af (kb _ _ TK) (Tab.same ⟨ps,hT,ht,htab⟩ kb) λb o e _=>kb b o e⟩
end
def dk(D:List Addr)(H:Hp):Hp:=λb=>if b∈D then none else H b
def gY(D:List Addr)(H H2:Hp):Hp:=λb=>if b∈D then H b else H2 b
theorem mj{D:List Addr}{H:Hp}{b:Addr}(h:b∈D):dk D H b=none:=if_pos h
theorem gZ{D:List Addr}{H:Hp}{b:Addr}(h:b ∉ D):dk D H b=H b:=if_neg h
theorem IH{D:List Addr}{H H2:Hp}{b:Addr}(h:b∈D):gY D H H2 b=H b:=if_pos h
theorem eB{D:List Addr}{H H2:Hp}{b:Addr}(h:b ∉ D):gY D H H2 b=H2 b:=if_neg h
def wide(h:Heap)(H:Hp)(fs:List Addr):Heap:=PySem.W.hideAll (jY h H) fs
theorem Lx(h:Heap)(H:Hp)(fs:List Addr):(wide h H fs).objs.size=h.objs.size:=(GY _ _).trans (uM _ _)
theorem qI{h:Heap}{H:Hp}{fs:List Addr}{b:Addr}{o:Obj}(e:h.get? b=some o)(n:H b=none)(nf:b ∉ fs):(wide h H fs).get? b=some o:=G5 _ (xq e n) nf
theorem Rm{h:Heap}{H:Hp}{fs:List Addr}{b:Addr}{o:Obj}(e:(wide h H fs).get? b=some o):h.get? b=some o/\H b=none:=H_ (HD fs e)
theorem Ly{h:Heap}{H:Hp}{fs:List Addr}{b:Addr}(hb:b∈fs):(wide h H fs).get? b=none:=GZ fs hb
theorem funFrames_base{h base base':Heap}:∀{l:List Env},h.FunFrames base l->(∀b∈frs l,base'.get? b=none)->h.FunFrames base' l
 | [],_,_=>trivial
 | env::r,⟨hk,⟨L,o,hf,hn,ho,hd⟩,hr⟩,k=>by
  have e:frs (env::r)=L::frs r:=by unfold frs;rw[Dh,hf]
  exact⟨hk,⟨L,o,hf,k L (by rw[e];exact AZ),ho,hd⟩,funFrames_base hr λb hb=>k b (by rw[e];exact AV _ hb)⟩
structure Wide (X:Cx)(σ:St)(D:List Addr)(H:Hp)(base':Heap):Prop where
 sub:∀b o,X.base.get? b=some o->base'.get? b=some o
 mod:Mod X.K X.mg base'
 ext:∀a φ,a∈D->H a=some (.ext φ)->φ base'
 val:∀(i:Nat) (x:Str) (v:V),X.N[i]? =some x->σ[i]? =some (some v)->X.env.scope.names.lookup x=some .cell->∃c u,X.env.cells.lookup x=some c/\base'.IsCell c (some u)/\RelV v u
 cell:∀x c,X.env.cells.lookup x=some c->∃v,base'.IsCell c v
 inj:∀x y c,X.env.cells.lookup x=some c->X.env.cells.lookup y=some c->x=y
section
variable{X:Cx}{k:Nat}{f:Addr}{fd:Aw}{ps:List Str}{sp:Sp}{pins:List (Addr×Obj)}{σ:St}{H:Hp}{s:AI}{D:List Addr}
theorem II(I:Inv X pins σ H s)(hfn:∀x,X.fn x=true)(hD:∀a∈D,∃φ,H a=some (.ext φ)):Wide X σ D H (wide s.heap (dk D H) (frs X.stack)):=by
 have nD:∀b,H b=none->b ∉ D:=λb n z=>by obtain⟨φ,e⟩:=hD b z;rw[n] at e;cases e
 have nfr:∀b o,X.base.get? b=some o->b ∉ frs X.stack:=λb o e z=>by
  rcases Ac.mp (I.oF b z) with q | q
  ·have:=AN e
   rw[q] at this
   exact absurd (AY this (BB I.ok.oE I.ok.above)) (BQ _)
  ·exact I.ok.Sk e q
 have sub:∀b o,X.base.get? b=some o->(wide s.heap (dk D H) (frs X.stack)).get? b=some o:=λb o e=>
  qI (I.bs b o e).1 (by rw[gZ (nD b (I.bs b o e).2)];exact(I.bs b o e).2) (nfr b o e)
 have cellK:∀x c v,X.env.cells.lookup x=some c->s.heap.IsCell c v->(wide s.heap (dk D H) (frs X.stack)).IsCell c v:=λx c v e ⟨o,ho,hd⟩=>by
  refine⟨o,qI ho (by rw[gZ (nD c (I.gb x c e))];exact I.gb x c e) λz=>?_,hd⟩
  rcases Ac.mp (I.oF c z) with q | q
  ·exact I.uO x c e q
  ·obtain⟨_,o',ho',_⟩:=I.ok.ic.mem q
   exact absurd (AY (AN ho') (I.ok.cab x c (hfn x) e)) (BQ _)
 refine⟨sub,⟨I.ok.mod.oC.keeps sub,I.ok.mod.glob.keeps sub,?_,I.ok.mod.nolimit.keeps sub⟩,λa φ ha e=>?_,λi x v h1 h2 h3=>?_,λx c e=>?_,I.ok.inj⟩
 ·obtain⟨mb,h1,h2⟩:=I.ok.mod.blt
  exact⟨mb,h1.keeps sub,h2⟩
 ·obtain⟨p,⟨o,ho⟩,st⟩:=I.hok a _ e
  refine st _ _ p λo' e'=>qI e' (mj ha) λz=>?_
  rw[I.lR a z] at e;cases e
 ·obtain⟨m,_,hl⟩:=I.loc
  obtain⟨u,r,l⟩:=hl i x v h1 h2 (.inr (.inl h3))
  rcases l with⟨q,_⟩ | ⟨_,c,e,z⟩
  ·have q':X.env.scope.names.lookup x=some .local:=q
   rw[h3] at q';cases q'
  ·exact⟨c,u,e,cellK x c _ e z,r⟩
 ·obtain⟨v,z⟩:=I.cell x c e
  exact⟨v,cellK x c v e z⟩
theorem Rn{Q:VK}{us:List Value}{vs:List V}(I:Inv X pins σ H s)(hfn:∀x,X.fn x=true)(hD:∀a∈D,∃φ,H a=some (.ext φ))(F:aR X.prog X.w X.K X.mg (wide s.heap (dk D H) (frs X.stack)) bj k f fd ps sp)(hr:aP k X.A)
  (hb:Binds X.K fd ps []) (r:Vals vs us) (h:sp vs (dk D H) (λv H2=>(∀b∈D,H2 b=none)->Q v (gY D H H2)) E0):wpAny (model X.prog X.w) X.A (call (.ref f) us) (EP X pins σ Q) X.xe s:=by
 have W:=II I hfn hD
 have hl:(us++[]).length=ps.length:=by rw[BS,<-r.length];exact F.len _ _ _ _ h
 have rZ:∀b u,H b=some u->(∀φ,u≠.ext φ)->dk D H b=some u:=λb u e ne=>by
  rw[gZ λz=>?_];exact e
  obtain⟨φ,q⟩:=hD b z
  rw[e] at q;cases q;exact ne φ rfl
 have uU:∀b u,dk D H b=some u->b ∉ D/\H b=some u:=λb u e=>by
  by_cases hb:b∈D
  ·rw[mj hb] at e;cases e
  ·rw[gZ hb] at e;exact⟨hb,e⟩
 have ZJ:cV X.prog X.w (dk D H) s.heap:=λb u e=>(I.hok b u (uU b u e).2).stay (λ_ _ _ q=>q) (λd q=>rZ d _ q λφ z=>nomatch z) λd xs q=>rZ d _ q λφ z=>nomatch z
 have nU:∀b,H b=none->dk D H b=none:=λb n=>by
  by_cases hb:b∈D
  ·exact mj hb
  ·rw[gZ hb];exact n
 have e0:qA X.prog X.w X.K X.mg (wide s.heap (dk D H) (frs X.stack)) X.A X.stack s (dk D H):=
  ⟨I.ok.frames,W.mod,λb o e=>Rm e,Nat.le_of_eq (Lx _ _ _),funFrames_base I.stack λb hb=>Ly hb,λb hb=>nU b (I.lR b hb),ZJ,I.bare⟩
 refine wpAny_call (EA (F.run X.A X.stack s (dk D H) ⟨us,[]⟩ us vs _ _ hr e0 (by have:=hb s us I.gx hl;rwa [BS] at this) r h) λr s' hq=>?_)
 cases r with
 | error e=>exact hq.elim
 | ok fl=>
  cases fl with
  | next=>exact Be hq
  | brk=>exact Be hq
  | cont=>exact Be hq
  | ret u=>
   obtain⟨v,H2,os,bare,un,hok,r,q⟩:=hq
   have inD:∀b,b∈D->∃φ o,H b=some (.ext φ)/\s.heap.get? b=some o/\s'.heap.get? b=some o/\H2 b=none:=λb hb=>by
    obtain⟨φ,e⟩:=hD b hb
    obtain⟨p,⟨o,ho⟩,st⟩:=I.hok b _ e
    refine⟨φ,o,e,ho,un.keep b o ho (mj hb) (λz=>?_) (by simp),un.free b o ho (mj hb) (by simp)⟩
    rw[I.lR b z] at e;cases e
   have PD:∀b u,H2 b=some u->b ∉ D:=λb u e z=>by obtain⟨_,_,_,_,_,n⟩:=inD b z;rw[n] at e;cases e
   have ZK:cV X.prog X.w (gY D H H2) s'.heap:=λb u e=>by
    by_cases hb:b∈D
    ·rw[IH hb] at e
     obtain⟨φ,o,e1,ho,ho',_⟩:=inD b hb
     rw[e1] at e;cases e
     obtain⟨p,_,st⟩:=I.hok b _ e1
     exact⟨st _ _ p λo2 e2=>by rw[ho] at e2;cases e2;exact ho',⟨o,ho'⟩,st⟩
    ·rw[eB hb] at e
     exact(hok b u e).stay (λ_ _ _ q=>q) (λd q=>by rw[eB (PD d _ q)];exact q) λd xs q=>by rw[eB (PD d _ q)];exact q
   have unR:Un (frs X.stack) [] H (gY D H H2) s.heap s'.heap:=by
    have nD:∀b,H b=none->b ∉ D:=λb n z=>by obtain⟨φ,e⟩:=hD b z;rw[n] at e;cases e
    refine⟨λb o e n h1 h2=>un.keep b o e (nU b n) h1 h2,λb o e n h1 h2=>un.slot b o e (nU b n) h1 h2,λb o e n h2=>by rw[eB (nD b n)];exact un.free b o e (nU b n) h2,un.there,λb xs e=>?_,λb o u e=>?_,λb qs e=>?_⟩
    ·have e1:=rZ b _ e λφ z=>nomatch z
     rw[eB (uU b _ e1).1];exact un.tups b xs e1
    ·have e1:=rZ b _ e λφ z=>nomatch z
     rw[eB (uU b _ e1).1];exact un.jW b o u e1
    ·have e1:=rZ b _ e λφ z=>nomatch z
     rw[eB (uU b _ e1).1];exact un.jX b qs e1
   exact I.after ⟨v,_,os,bare,unR,ZK,r,q λb hb=>by obtain⟨_,_,_,_,_,n⟩:=inD b hb;exact n⟩
end
section
variable{X:Cx}{x:Str}{p pos:Pos}{e:Expr}{es:List Expr}{t:TA}{k:Nat}{f:Addr}{fd:Aw}{ps:List Str}
def TN(X:Cx)(k:Nat)(f:Addr)(fd:Aw)(ps:List Str)(t:TA):TE:=λσ H Q=>t σ H λvs H1=>∃D:List Addr,(∀a∈D,∃φ,H1 a=some (.ext φ))/\
 ∀base':Heap,Wide X σ D H1 base'->∃sp:Sp,aR X.prog X.w X.K X.mg base' bj k f fd ps sp/\sp vs (dk D H1) (λv H2=>(∀b∈D,H2 b=none)->Q v (gY D H1 H2)) E0
theorem x4(hfn:∀x,X.fn x=true)(hr:aP k X.A)(hg:Gl X x)(hm:X.mg x=some (.ref f))(hk:AK X.K (.ref f)=true)(hb:Binds X.K fd ps [])
  (ha:PA X (e::es) t) (hdb:(x == ("__debug__":Str))=false:=by decide) (he:BC (e::es) X.env=(false,eval e X.env)::BC es X.env:=by rfl) (hpl:(D_ pos (BC es X.env)).any (·.1)=false:=by rfl):
  PE X (.Call (.Name x p) (e::es) [] pos) (TN X k f fd ps t):=by
 intro pins s σ H Q I h
 refine B0 (tO I hg hm ?_ hdb)
 refine HE (h₀:=X.base) I.ok.mod.oC hk (aM (ha pos pins s σ H _ I h) λus s1 ⟨vs,H1,I1,r,D,hD,q⟩=>⟨I1.gx,?_⟩) he hpl
 obtain⟨sp,F,hsp⟩:=q _ (II I1 hfn hD)
 exact Rn I1 hfn hD F hr hb r hsp
end
def p_(ts:List Addr)(H:Hp):Prop:=(∀b,H b=none∨(∃o xs,H b=some (.jb o (.lst xs)))∨(b∈ts/\H b=some (.gw #[])))/\∀b∈ts,H b=some (.gw #[])
theorem p_.tab{ts:List Addr}{H:Hp}{T:Addr}{L:List (Pos×Str)}(x:p_ ts H)(h:T∈ts):Tab H T L:=⟨#[],x.2 T h,trivial,λp _=>.inl rfl⟩
theorem Lz{P:Ak}{w:World}{K:AD}{mg mb:Str->Option Value}{CX:qm}{k:Nat}{fa a:Addr}{fd:Aw}{x:Str}{sp:Sp}{s₁:AI}{vs:List Value}{ns:List Int}{ts:List Addr}
  (KX:K.In s₁.heap) (hns:s₁.heap.Ns AU mg) (hb:s₁.heap.Ns Fq mb) (hbb:∀x:Str,x≠"__name__"->mb x=BN x) (hlim:s₁.heap.NoLimit) (hg:s₁.gens= #[])
  (ha:s₁.heap.get? a=some {cls:=.type "list",data:=.seq vs.toArray}) (hi:Ft vs ns) (hl:ns.length<=sizeLine) (hr:aP k Gx)
  (hts:∀T∈ts,(∃c,DV s₁.heap c T)/\s₁.heap.get? T=some (Ba #[])/\K.lookup T=none) (xZ:fq mg s₁.heap)
  (F:∀base:Heap,K.In base->base.Ns AU mg->fq mg base->aR P w K mg base CX k fa fd [x] sp) (hbind:∀(s:AI) (u:Value),HM s fd ⟨[u],[]⟩ [(x,u)])
  (hsp:∀H:Hp,p_ ts H->bz K H a (ns.map V.int)->sp [.ref a] H (λv _=>v=.bl true) λ_ _ _=>False)
  (hCX:∀H e s',CX [] H s₁ (λ_ _ _=>False) e s'->False):
  EY (model P w) Gx (.call (.ref fa) ⟨[.ref a],[]⟩) (λr s'=>r=.ok (.ret (.bool true))/\OldK s₁.heap s'.heap/\s'.os=s₁.os/\FK s'.gens) s₁:=by
 have rv:=u_ hi
 have lenV:=hi.length
 have aT:a ∉ ts:=λz=>by
  have:=(hts a z).2.1
  rw[ha] at this;cases this
 have core:∀H:Hp,p_ ts H->bz K H a (ns.map V.int)->cV P w H s₁.heap->(∀b,H b≠none->b=a∨b∈ts)->(H a≠none->K.lookup a=none)->
   EY (model P w) Gx (.call (.ref fa) ⟨[.ref a],[]⟩) (λr s'=>r=.ok (.ret (.bool true))/\OldK s₁.heap s'.heap/\s'.os=s₁.os/\FK s'.gens) s₁:=by
  intro H hO hS hok hA hK
  have t6:∀{b:Addr} {o:Obj},s₁.heap.get? b=some o->H b=none->(jY s₁.heap H).get? b=some o:=λe n=>xq e n
  have kI:∀{b:Addr} {o:Obj},s₁.heap.get? b=some o->o≠{cls:=.type "list",data:=.seq vs.toArray}->o≠Ba #[]->H b=none:=λ{b o} e d1 d2=>by
   cases q:H b with
   | none=>rfl
   | some u=>
    rcases hA b (by rw[q];simp) with e' | e'
    ·subst e'
     rw[ha] at e;cases e
     exact absurd rfl d1
    ·have:=(hts b e').2.1
     rw[e] at this;cases this
     exact absurd rfl d2
  have PF:∀{b:Addr} {m:Str->Option Value},s₁.heap.Ns b m->(jY s₁.heap H).Ns b m:=λ{b m} ⟨o,es,ep,e,d,r⟩=>⟨o,es,ep,t6 e (kI e (λz=>by rw[z] at d;cases d) λz=>by rw[z] at d;cases d),d,r⟩
  have X6:K.In (jY s₁.heap H):=λb o e=>t6 (KX b o e) (by
   cases q:H b with
   | none=>rfl
   | some u=>
    rcases hA b (by rw[q];simp) with e' | e'
    ·subst e'
     rw[hK (by rw[q];simp)] at e;cases e
    ·rw[(hts b e').2.2] at e;cases e)
  have hBb:fq mg (jY s₁.heap H):=by
   obtain⟨bm,o,h1,h2,h3,h4,h5,h6⟩:=xZ
   exact⟨bm,o,h1,h2,t6 h3 (kI h3 (λz=>by rw[z] at h4;exact absurd (Value.type.inj h4) (by decide)) λz=>by rw[z] at h4;cases h4),h4,h5,h6⟩
  have hM:Mod K mg (jY s₁.heap H):=⟨X6,PF hns,⟨mb,PF hb,hbb⟩,let ⟨mc,h1,h2⟩:=hlim;⟨mc,PF h1,h2⟩⟩
  have e0:qA P w K mg (jY s₁.heap H) Gx [] s₁ H:=⟨rfl,hM,λb o e=>H_ e,Nat.le_of_eq (uM _ _),trivial,λb hb=>absurd (show b∈([]:List Addr) from hb) (by simp),hok,.of_eq hg⟩
  refine EA ((F _ X6 (PF hns) hBb).run Gx [] s₁ H ⟨[.ref a],[]⟩ [.ref a] [.ref a] _ _ hr e0 (hbind s₁ (.ref a)) (.cons rfl .nil) (hsp H hO hS)) λr s' h=>?_
  cases r with
  | error e=>exact(hCX H e s' h).elim
  | ok fl=>
   cases fl with
   | next=>exact Be h
   | brk=>exact Be h
   | cont=>exact Be h
   | ret u=>
    obtain⟨v,H',os,bare,un,hok',r',q⟩:=h
    have q':v=.bl true:=q
    subst q'
    obtain rfl:u=DS true:=r'
    refine⟨rfl,⟨λb o e=>?_,λb o e=>un.there b o e (by simp)⟩,os,bare⟩
    cases q:H b with
    | none=>exact .inl (un.keep b o e q (by intro z;exact absurd (show b∈([]:List Addr) from z) (by simp)) (by simp))
    | some u=>
     rcases hO.1 b with z | ⟨ob,xs,z⟩ | ⟨hb,z⟩
     ·rw[q] at z;cases z
     ·have z2:=un.jW b ob _ z
      obtain⟨e1,_⟩:=hok b _ z
      obtain⟨e2,_⟩:=hok' b _ z2
      rw[e] at e1;cases e1
      exact .inl e2
     ·obtain⟨more,z2⟩:=un.jX b _ z
      have e2:s'.heap.get? b=some (Ba (#[]++more)):=hok' b _ z2
      obtain⟨⟨c,hc⟩,e3,_⟩:=hts b hb
      have e4:o=Ba #[]:=by rw[e] at e3;exact AS e3
      subst e4
      exact .inr (.inl ⟨(hc.tab e3).isCodeTable,rfl, #[],more,rfl,e2⟩)
 have tne:∀T∈ts,T≠a:=λT hT z=>aT (z▸hT)
 cases hk:K.lookup a with
 | some o=>
  have e:=KX a o hk
  rw[ha] at e
  cases e
  refine core (λb=>if b∈ts then some (.gw #[]) else none) ⟨λb=>?_,λb hb=>if_pos hb⟩ (.inr ⟨_,vs.toArray,_,hk,rfl,rfl,rfl,by rw[Ai,lenV];exact hl,by simpa using rv⟩) (λb u z=>?_) (λb z=>?_) λz=>absurd (if_neg aT) z
  ·by_cases hb:b∈ts
   ·exact .inr (.inr ⟨hb,if_pos hb⟩)
   ·exact .inl (if_neg hb)
  ·by_cases hb:b∈ts
   ·have z':=(if_pos hb).symm.trans z
    cases z'
    exact(hts b hb).2.1
   ·have z':=(if_neg hb).symm.trans z
    cases z'
  ·by_cases hb:b∈ts
   ·exact .inr hb
   ·exact absurd (if_neg hb) z
 | none=>
  have eA:∀b,b=a->(if b∈ts then some (HO.gw #[]) else if b=a then some (HO.jb {cls:=.type "list",data:=.seq vs.toArray} (.lst (ns.map V.int))) else none)=some (HO.jb {cls:=.type "list",data:=.seq vs.toArray} (.lst (ns.map V.int))):=λb hb=>by
   rw[if_neg (hb▸aT),if_pos hb]
  have eN:∀b,b ∉ ts->b≠a->(if b∈ts then some (HO.gw #[]) else if b=a then some (HO.jb {cls:=.type "list",data:=.seq vs.toArray} (.lst (ns.map V.int))) else none)=none:=λb h1 h2=>by
   rw[if_neg h1,if_neg h2]
  refine core (λb=>if b∈ts then some (.gw #[]) else if b=a then some (.jb {cls:=.type "list",data:=.seq vs.toArray} (.lst (ns.map V.int))) else none) ⟨λb=>?_,λb hb=>if_pos hb⟩ (.inl (.inr ⟨{cls:=.type "list",data:=.seq vs.toArray},eA a rfl⟩)) (λb u z=>?_) (λb z=>?_) λ_=>hk
  ·by_cases hb:b∈ts
   ·exact .inr (.inr ⟨hb,if_pos hb⟩)
   by_cases hb2:b=a
   ·exact .inr (.inl ⟨_,_,eA b hb2⟩)
   ·exact .inl (eN b hb hb2)
  ·by_cases hb:b∈ts
   ·have z':=(if_pos hb).symm.trans z
    cases z'
    exact(hts b hb).2.1
   by_cases hb2:b=a
   ·have z':=(eA b hb2).symm.trans z
    cases z'
    subst hb2
    exact⟨ha,by rw[AB];exact hl,vs,_,rv,ha⟩
   ·have z':=(eN b hb hb2).symm.trans z
    cases z'
  ·by_cases hb:b∈ts
   ·exact .inr hb
   by_cases hb2:b=a
   ·exact .inl hb2
   ·exact absurd (eN b hb hb2) z
theorem N_{l:GH}{n k:Nat}{q:Ak}{loose:List Str}{XP:(Str->Option Value)->Heap->Prop}{YP:World->Heap->Prop}{d:DefRec}{K:Gj->AD}{sp:World->List Addr->Sp}{x:Str}
  (hn:l.most=some n) (hn2:n<=sizeLine) (hdf:d.params.defaults=[]) (hr:aP k Gx)
  (hY:∀(w:World) (h:Heap),YP w h->(K w.params).In h)
  (F:∀(w:World) (mg:Str->Option Value) (fa:Addr) (h:Heap),(K w.params).In h->h.Ns AU mg->mg d.name=some (.ref fa)->YP w h->
   ∃(fd:Aw) (ts:List Addr),(∀T∈ts,(∃c,DV h c T)/\h.get? T=some (Ba #[])/\(K w.params).lookup T=none)/\(∀(s:AI) (u:Value),HM s fd ⟨[u],[]⟩ [(x,u)])/\
    ∀base:Heap,(K w.params).In base->base.Ns AU mg->fq mg base->aR l.prog w (K w.params) mg base bj k fa fd [x] (sp w ts))
  (hsp:∀(w:World) (H:Hp) (a:Addr) (ns:List Int) (ts:List Addr),ns.length<=n->p_ ts H->bz (K w.params) H a (ns.map V.int)->sp w ts [.ref a] H (λv _=>v=.bl true) λ_ _ _=>False):
  PySem.W.WalkO q loose XP YP l.row.toRowW d [] (λf vs=>Hg f vs):=by
 refine XR.zW hn hdf λw s₀ s₁ mg mb fa o pm cd doc a vs ns G Y ho hd hcd hmg hobj hints hlen hg=>?_
 have KX:=hY w _ Y
 obtain⟨fd,ts,h1,hb,hF⟩:=F w mg fa _ KX G.T.g hmg Y
 obtain⟨bm,ob,b1,b2,b3,b4⟩:=G.T.bmain
 exact Lz KX G.T.g G.T.b G.T.builtins G.T.nolimit hg hobj hints (BB hlen hn2) hr h1 ⟨bm,ob,b1,b2,b3,b4⟩ hF hb (λH hO hS=>hsp w H a ns ts hlen hO hS) λH e s'=>id
theorem ml:E4 (.type "list") "keys"=pure none:=by rw[DH,CA];kernel_rfl
section
variable{P:Ak}{w:World}{A:A9}{E:Value->AI->Prop}{s:AI}
theorem x5{a:Addr}{xs:Array Value}{k:Nat}{Q:Option Value->AI->Prop}(hx:s.heap.get? a=some {cls:=.type "list",data:=.seq xs k})(hA:A.handled=none)
  (h:∀h' tk,(∀b o,s.heap.get? b=some o->h'.get? b=some o)->Q none {s with heap:=h',toks:=tk}):wpAny (model P w) A (getAttr? (.ref a) "keys") Q E s:=by
 obtain⟨hp,g,d,tk,os⟩:=s
 have hT:∀tk',(⟨hp,g,d,tk',os⟩:AI).TypeIs (.ref a) "list":=λ_=>⟨_,hx,rfl⟩
 have f1:=sub_AttributeError
 have f3:=Du.lookup
 have f4:=Du.bind (.ref a)
 have f5:=am_list_getattr_none
 have f6:=ml
 unfold getAttr? getAttrBy? getAttrBy
 repeat (any_goals (first | assumption | exact hT _ | ((with_reducible show wpAny _ _ (call (Value.builtin "list.__getattribute__") _ _) _ _ _);refine E6 Du (hT _) am_entry_list_getattribute (F.args_list_getattribute_2 _ _) (meets_getattribute_miss_list a xs k #[] "keys" _ ml (by decide+kernel) (by size_fits)) ⟨hx,hA,λh' tk' e hx'=>?_⟩) | wp_step))
 obtain⟨t',u',he⟩:=hx'.there
 show wpAny _ _ (D5 _ _ _ _ _ _ _) _ _ _
 unfold D5
 repeat (any_goals (first | assumption | wp_step))
 exact h _ _ hx'.keeps
end
theorem jG:entryFor table "dict.update.loop"=some Builtin.«dict.update.loop» :=entryFor_of_tree (by kernel_rfl)
theorem dh:plainId "dict.update.loop"=true:=by decide+kernel
section
variable{P:Ak}{w:World}{A:A9}{R:Result->AI->Prop}{I D:Addr}{fp wr:List Addr}{G:Array Ga->Array Ga->Prop}{n:Nat}{Pv:Nat->Value->Prop}{St:Nat->AI->Prop}
def Ro(P:Ak)(w:World)(h:Heap)(D:Addr)(wr:List Addr)(Pv:Nat->Value->Prop)(more:List (Key×Value)):Prop:=∀i v,Pv i v->∃p k key u o m,v=.ref p/\more[i]? =some (k,u)/\(aY P w).is k key=true/\h.get? p=some o/\o.cls=.type "tuple"/\o.data=.seq #[key,u] m/\p≠D/\p ∉ wr
theorem vq(W:WalksS P w A.in1 I fp wr G n Pv St)(hDf:D ∉ fp)(more:List (Key×Value))(hml:more.length=n)(hb:n<sizeLine):
  ∀(k i:Nat) (j:Int) (s:AI),n-i=k->i<=n->St i s->Ro P w s.heap D wr Pv more->s.heap.DictOf (aY P w) D (Fv [] (more.take i))->
   (∀s',Moved (D::wr) G s s'->s'.heap.DictOf (aY P w) D (Fv [] more)->R (.ok (.ret .none)) s')->
   EY (model P w) A (.builtin "dict.update.loop" ⟨[.ref D,.ref I,Aq j,.none],[]⟩) R s:=by
 have hDw:D ∉ wr:=λz=>hDf (W.sub _ z)
 have sub:∀b∈wr,b∈D::wr:=λb z=>AV _ z
 intro k
 induction k with
 | zero=>
  intro i j s hk hi st hp hd hR
  have e:i=n:=by omega
  subst e
  refine CM jG ?_
  rw[B2 dh]
  show wpAny (model P w) A.in1 (Ce (.ref I) >>= _) _ _ s
  refine AA (W.done s _ _ st λs' mv=>?_)
  show wpAny (model P w) A.in1 (Builtin.Dict.addKeywords D [] >>= _) _ _ s'
  refine AA (AH ?_)
  refine AH (hR s' (mv.mono sub) ?_)
  obtain⟨o,es,ep,ho,r⟩:=hd
  rw[Bp (by omega)] at r
  exact⟨o,es,ep,mv.heap D o hDw ho,r⟩
 | succ k ih=>
  intro i j s hk hi st hp hd hR
  have lt:i<n:=by omega
  refine CM jG ?_
  rw[B2 dh]
  show wpAny (model P w) A.in1 (Ce (.ref I) >>= _) _ _ s
  refine AA (W.item i s _ _ lt st λv s' hv st' mv=>?_)
  obtain⟨p,kk,key,u,o,m,rfl,em,hkey,ho,hc,hdat,pD,pw⟩:=hp i v hv
  have ho':=mv.heap p o pw ho
  have hd':s'.heap.DictOf (aY P w) D (Fv [] (more.take i)):=by
   obtain⟨od,es,ep,hod,r⟩:=hd
   exact⟨od,es,ep,mv.heap D od hDw hod,r⟩
  have hT:s'.TypeIs (.ref p) "tuple":=⟨o,ho',hc⟩
  have hl:(Fv [] (more.take i)).length<=sizeLine:=by
   have:=merged_length_le ([]:List (Key×Value)) (more.take i)
   rw[Ao] at this
   simp at this
   omega
  refine AA (Bb ?_)
  refine AA (wpAny_tryCatch ?_)
  unfold Builtin.Dict.pairItems
  refine AA (Ck hT ?_)
  show wpAny _ _ (Gz (.ref p) >>= _) _ _ _
  refine AA (BU ho' hdat (AH ?_))
  show wpAny _ _ (holding [key,u] (dictSet D key u)) _ _ _
  refine Bb (wpAny_dictSet_pairs (hsz:=hl) hkey hd' λh' hd2 hs=>?_)
  refine AH ⟨CO dh _,ih (i+1) (j+1) _ (by omega) lt (W.frame _ s' h' _ st' (B' _) λb hb o q=>(hs.2 b (λz=>hDf (z▸hb))).trans q) (λi2 v2 hv2=>?_) ?_ λs2 mv2 d2=>?_⟩
  ·obtain⟨p2,k2,key2,u2,o2,m2,e1,e2,e3,e4,e5,e6,e7,e8⟩:=hp i2 v2 hv2
   exact⟨p2,k2,key2,u2,o2,m2,e1,e2,e3,(hs.2 p2 e7).trans (mv.heap p2 o2 e8 e4),e5,e6,e7,e8⟩
  ·show h'.DictOf (aY P w) D (Fv [] (more.take (i+1)))
   rw[merged_take_succ [] more i (kk,u) em]
   exact hd2
  ·exact hR s2 (Hc W.gtrans ((mv.mono sub).then_heap (B' _) λb o hb q=>(hs.2 b (λz=>hb (z▸AZ))).trans q) mv2) d2
end
section
variable{P:Ak}{w:World}{A:A9}{E:Value->AI->Prop}{s:AI}
theorem vZ{l:Addr}{its:Array Value}{nl:Nat}{more:List (Key×Value)}{Q:Value->AI->Prop}(hh:A.handled=none)(hl:s.heap.get? l=some {cls:=.type "list",data:=.seq its nl})
  (hp:∀(i:Nat) (v:Value),its[i]? =some v->∃p k key u o m,v=.ref p/\more[i]? =some (k,u)/\(aY P w).is k key=true/\s.heap.get? p=some o/\o.cls=.type "tuple"/\o.data=.seq #[key,u] m) (hml:more.length=its.size) (hb:its.size<sizeLine)
  (h:∀h' tk,h'.DictOf (aY P w) s.heap.objs.size (Fv [] more)->(∀b o,s.heap.get? b=some o->h'.get? b=some o)->Q (.ref s.heap.objs.size) {s with heap:=h',toks:=tk}):
  wpAny (model P w) A (call (.type "dict") [.ref l]) Q E s:=by
 refine Gp (Q₁:=λobj s₁=>obj=.ref s.heap.objs.size/\s₁={s with heap:=s.heap.push {cls:=.type "dict",data:=.dict #[]}}) F.kt_called_dict (F.kt_typeCall_dict_1 _) F.entry_dict_init (kt_code_dict_new _ ⟨rfl,rfl⟩) ?_
 rintro obj s₁ ⟨rfl,rfl⟩
 have hnew:(s.heap.push {cls:=.type "dict",data:=.dict #[]}).DictOf (aY P w) s.heap.objs.size []:=GF s.heap
 have hl1:(s.heap.push {cls:=.type "dict",data:=.dict #[]}).get? l=some {cls:=.type "list",data:=.seq its nl}:=AE _ hl
 have lS:l<s.heap.objs.size:=AN hl
 refine⟨hnew.typeIs,F.args_dict_init_2 _ _,?_⟩
 unfold Builtin.«dict.__init__»
 refine AA ?_
 unfold Fb
 refine AA (wpAny_notOrdered_dict hnew.typeIs ?_)
 show wpAny _ _ (pure (s.heap.objs.size,[BI l])) _ _ _
 refine AH ?_
 show wpAny _ _ (C4 "dict.__init__" s.heap.objs.size (.ref l) [] .none) _ _ _
 unfold C4
 refine AA (Ck (show FZ {s with heap:=s.heap.push {cls:=.type "dict",data:=.dict #[]}} (.ref l) "list" from⟨_,hl1,rfl⟩) ?_)
 rw[if_pos (by decide)]
 refine AA (x5 hl1 (by simp[hh]) λh1 tk1 k1=>?_)
 rw[show(none:Option Value).isNone=true from rfl,if_pos rfl]
 refine AA (Ca ?_)
 have hl2:h1.IsList l its:=⟨_,k1 _ _ hl1,rfl,nl,rfl⟩
 refine AA (DN hl2 ?_)
 refine AH ⟨CO dh _,?_⟩
 have TQ:l<h1.objs.size:=AN (k1 _ _ hl1)
 have vi:l≠h1.objs.size:=Ae TQ
 have x6:s.heap.objs.size<h1.objs.size:=by
  obtain⟨o,es,ep,ho,_⟩:=hnew
  exact AN (k1 _ _ ho)
 have nf:s.heap.objs.size ∉ [h1.objs.size,l]:=by
  simp only[Ac,CD,or_false,not_or]
  exact⟨Ae x6,Bo lS⟩
 have hh3:A.in1.in1.handled=none:=by simp[hh]
 refine vq ((Hi hh3 _ l vi its).toS) nf more hml hb (its.size-0) 0 0 _ (by omega) (BG _) ⟨⟨_,AO _ rfl,rfl,rfl⟩,hl2.push _⟩ (λi v hv=>?_) ?_ λs' mv hd=>?_
 ·obtain⟨p,k,key,u,o,m,e1,e2,e3,e4,e5,e6⟩:=hp i v hv
  have lp:=AN e4
  refine⟨p,k,key,u,o,m,e1,e2,e3,AE _ (k1 _ _ (AE _ e4)),e5,e6,Ae lp,λz=>?_⟩
  have e9:p=h1.objs.size:=AR.mp z
  rw[e9] at lp
  exact absurd (CG lp x6) (BQ _)
 ·show Heap.DictOf _ _ _ (Fv [] (more.take 0))
  obtain⟨o,es,ep,ho,r⟩:=hnew
  exact⟨o,es,ep,AE _ (k1 _ _ ho),r⟩
 ·obtain⟨h',g',d',tk',os'⟩:=s'
  have eg:g'=s.gens:=mv.gens
  have ed:d'=s.drawn:=mv.drawn
  have eo:os'=s.os:=mv.os
  subst eg ed eo
  refine⟨rfl,h h' tk' hd λb o e=>mv.heap b o (λz=>?_) (AE _ (k1 _ _ (AE _ e)))⟩
  have lb:=AN e
  simp only[Ac,CD,or_false] at z
  rcases z with z | z
  ·rw[z] at lb;exact BQ _ lb
  ·rw[z] at lb;exact BQ _ (CG lb x6)
end
section
variable{X:Cx}
def TR:List V->Hp->VK->Prop:=λvs H Q=>∃(l:Addr) (ps:List Addr) (kvs:List (Key×V)),vs=[.ref l]/\H l=some (.lst (ps.map V.ref))/\Bv (λ(p:Addr) (q:Key×V)=>H p=some (.tup [kV q.1,q.2])) ps kvs/\kvs.length<sizeLine/\∀D,H D=none->Q (.ref D) (upd H D (.dK (bP [] kvs)))
theorem JW(hA:X.A.handled=none):cS X (.type "dict") TR:=by
 intro pins s σ H xs us Q I r h
 obtain⟨l,ps,kvs,rfl,hl,hp,hb,q⟩:=h
 obtain⟨u,rfl,ru⟩:=vals1 r
 cases ru
 obtain⟨z,its,n,rv,e⟩:=I.hok l _ hl
 have key:∀(ps:List Addr) (kvs:List (Key×V)) (its:List Value),Bv (λ(p:Addr) (q:Key×V)=>H p=some (.tup [kV q.1,q.2])) ps kvs->Vals (ps.map V.ref) its->
   ∃more:List (Key×Value),KV kvs more/\∀(i:Nat) (v:Value),its[i]? =some v->∃p k key u o m,v=.ref p/\more[i]? =some (k,u)/\(aY X.prog X.w).is k key=true/\s.heap.get? p=some o/\o.cls=.type "tuple"/\o.data=.seq #[key,u] m:=by
  intro ps kvs its a
  induction a generalizing its with
  | nil=>intro b;cases b;exact⟨[],.nil,λi v hv=>by simp at hv⟩
  | @cons p q ps kvs h t ih=>
   intro b
   cases b with
   | cons rp rt=>
    obtain⟨more,m1,m2⟩:=ih _ rt
    obtain⟨z2,its2,jF,o,ho,hc,m,hd⟩:=I.hok p _ h
    cases jF with
    | cons r1 r2=>
     cases r2 with
     | cons r2 r3=>
      cases r3
      cases(show _=BI p from rp)
      refine⟨(q.1,_)::more,.cons ⟨rfl,r2⟩ m1,λi v hv=>?_⟩
      cases i with
      | zero=>
       have e:BI p=v:=by simpa using hv
       exact⟨p,q.1,_,_,o,m,e.symm,rfl,jJ r1,ho,hc,hd⟩
      | succ i=>exact m2 i v (by simpa using hv)
 obtain⟨more,m1,m2⟩:=key ps kvs its hp rv
 have len1:more.length=its.length:=by rw[<-AX m1,<-AX hp,<-rv.length,AB]
 have len2:its.length=kvs.length:=by rw[<-len1,<-AX m1]
 refine vZ (nl:=n) (its:=its.toArray) (more:=more) hA e (λi v hv=>m2 i v (by simpa using hv)) (by simpa using len1) (by rw[Ai,len2];exact hb) λh' tk dd kp=>?_
 have bg:(s.heap.objs.size == Bq)=false:=beq_eq_false_iff_ne.mpr (DM (Ae I.big))
 have hz:(bP [] kvs).length<=sizeLine:=by
  have h1:=fD kvs []
  rw[CK] at h1
  omega
 exact⟨.ref s.heap.objs.size,_,I.laid (a:=s.heap.objs.size) (o:=.dK (bP [] kvs)) (t':=tk) kp (AM _) ⟨hz,bg,_,m1.merge .nil,dd⟩,rfl,q _ (I.hok.fresh (AM _))⟩
end
section
variable{X:Cx}{o e f:Expr}{apos cpos:Pos}{td ty tx:TE}
def TU(tk tv:TE):TE:=λσ H Q=>∀p,H p=none->tk σ (upd H p (.dT [])) λx H1=>tv σ H1 λy H2=>H2 p=some (.dT [])/\∃b ks,x=.ref b/\H2 b=some (.tup (ks.map kV))/\Q (.ref p) (upd H2 p (.dT [(ks,y)]))
theorem N0{pos:Pos}{k v:Expr}{tk tv:TE}(hu:X.A.units<cLine)(hk:PE X k tk)(hv:PE X v tv):PE X (.Dict [some k] [v] pos) (TU tk tv):=by
 intro pins s σ H Q I q
 have hn:=I.hok.fresh (AM s.heap.objs.size)
 have I1:=I.laid (a:=s.heap.objs.size) (o:=.dT []) (h':=s.heap.push {cls:=.type "dict",data:=.dict #[]}) (t':=s.toks) (λ_ _ q=>AE _ q) (AM _) (xI s.heap I.big)
 have hall:([some k]:List (Option Expr)).all (·.isSome)=true:=rfl
 have hl:([some k]:List (Option Expr)).length=[v].length:=rfl
 rw[arm_eval_Dict,zip_pairTrees [some k] [v] X.env pos hall hl,dictDisplay_pairs _ (λz=>by
  have:=pairTrees_length [some k] [v] X.env pos hall hl
  rw[z] at this;cases this) (by rw[pairTrees_length [some k] [v] X.env pos hall hl];show 1<17;decide)]
 refine AA (G' (AA ?_))
 unfold subDict
 refine AA (wpAny_alloc ?_)
 refine AA (Bb ?_)
 rw[if_pos (by rw[pairTrees_length [some k] [v] X.env pos hall hl];show 1<=15;decide)]
 have hp:K6 X pos [some k] [v] [(tk,tv)]:=j7 hk hv tS
 refine AA (aM (hp pins _ σ _ (λps H2=>match ps with | [(x,y)]=>H2 s.heap.objs.size=some (.dT [])/\∃b ks,x=.ref b/\H2 b=some (.tup (ks.map kV))/\Q (.ref s.heap.objs.size) (upd H2 s.heap.objs.size (.dT [(ks,y)])) | _=>False) I1 (q _ hn)) λws s2 ⟨ps,H2,I2,rel,q2⟩=>?_)
 cases rel with
 | nil=>exact Be q2
 | @cons p0 w0 ps' ws' r0 rt=>
  cases rt with
  | cons r1 rt1=>exact Be q2
  | nil=>
   obtain⟨e,b,ks,eb,hb,q3⟩:=q2
   obtain⟨x0,y0⟩:=p0
   obtain⟨kv,vv⟩:=w0
   cases eb
   cases(show kv=BI b from r0.1)
   obtain⟨z,hd,xs,rx,dd⟩:=Pr I2.hok e
   cases rx
   refine Bb (AA ?_)
   rw[CL]
   refine AA (AA (wpAny_dictSet_heap (knd:=ER (aY X.prog X.w)) (k:=ks) (xs:=[]) (show(ER (aY X.prog X.w)).room X.A from hu) (j6 I2.hok hb) dd (λh' rO hs=>AH ?_) (BG _)))
   dsimp only
   rw[C5]
   refine AH (AH (AH (AH ?_)))
   obtain⟨q',es,ep,hq,h2,h3,h4,_,h5⟩:=rO
   have new:bM X.prog X.w (upd H2 s.heap.objs.size (.dT [(ks,y0)])) h' s.heap.objs.size (.dT [(ks,y0)]):=by
    refine⟨by show 1<=sizeLine;decide,hd,_,(KT.put (.nil:KT H2 [] []) ks hb r0.2).keeps λc ys ec=>?_,q',es,ep,hq,h2,h3,h4,h5⟩
    rw[ao (fL ec e (λz=>nomatch z))]
    exact ec
   exact⟨.ref s.heap.objs.size,_,pT I2 (by rw[e];exact Bf) hs ⟨q',hq⟩ new,rfl,q3⟩
end
theorem TV{c:TT}{tb:TS}{D:Ends}{σ:St}{H:Hp}(W:Nat->St->Hp->Prop)(h0:∃m,W m σ H)
  (hs:∀m σ H,W m σ H->c σ H λb H1=>if b=true then tb {D with nx:=λσ' H'=>∃m',m'<m/\W m' σ' H',ct:=λσ' H'=>∃m',m'<m/\W m' σ' H',bk:=D.nx} σ H1 else D.nx σ H1)
  (mono:∀σ H Q Q',(∀b H1,Q b H1->Q' b H1)->c σ H Q->c σ H Q'):lT c tb D σ H:=by
 refine⟨W,h0,λm σ H w=>mono σ H _ _ (λb H1 q=>?_) (hs m σ H w)⟩
 cases b with
 | true=>exact⟨_,λσ' H' p=>p,q⟩
 | false=>exact q
structure jr (K:AD)(x qual:Str)(st:Stmt)(f:Addr)(fd:Aw)(cd:Value):Prop where
 ex:∃(oc:Value) (od:Option Addr) (dV kV doc pm:Value) (an:Option Addr) (ct:Value) (osl:Array (Option Value)),
  fd=Aa x qual (aE st) (aC st) (ah st) dV kV doc pm an cd ct/\K.lookup f=some ⟨oc,od,.func fd,osl⟩/\Af K cd qual=true
 kp:AK K (.ref f)=true
section
variable{P:Ak}{w:World}{K:AD}{mg:Str->Option Value}{base:Heap}
theorem jr.ok{x qual:Str}{st:Stmt}{f:Addr}{fd:Aw}{cd:Value}{N ps:List Str}{k:Nat}{sp:Sp}(F:jr K x qual st f fd cd)(S:aO N ps (ah st))(len:∀vs H Q E,sp vs H Q E->vs.length=ps.length)
  (hbody:∀(A:A9) (outer:List Env) (s:AI) (H:Hp) (vs:List V) (Q:VK) (E:XK),aP k (A.deeper (Ej qual (ah st) s.heap.objs.size f cd))->sp vs H Q E->
   ∃t,jE (j0 bj P w K mg base N qual (ah st) f cd A outer s H E).ql (aC st) t/\t {nx:=λ_ H'=>Q .non H',rt:=Q} (start N vs) H):aR P w K mg base bj (k+1) f fd ps sp:=by
 obtain⟨oc,od,dV,kV,doc,pm,an,ct,osl,rfl,lk,hcd⟩:=F.ex
 refine Po lk hcd S len λA outer s H vs Q E hr hsp=>?_
 obtain⟨t,h,q⟩:=hbody A outer s H vs Q E hr hsp
 exact⟨t,h.ql,q⟩
theorem iQ{x qual:Str}{st:Stmt}{f:Addr}{oc:Value}{od an:Option Addr}{osl:Array (Option Value)}{dV kV doc pm cd ct:Value}(l:K.lookup f=some ⟨oc,od,.func (Aa x qual (aE st) (aC st) (ah st) dV kV doc pm an cd ct),osl⟩)
  (c:Af K cd qual=true) (k:AK K (.ref f)=true):jr K x qual st f (Aa x qual (aE st) (aC st) (ah st) dV kV doc pm an cd ct) cd:=⟨⟨oc,od,dV,kV,doc,pm,an,ct,osl,rfl,l,c⟩,k⟩
end
section
variable{X:Cx}{pos:Pos}{params:CP}{body:Expr}{scope:Scope}{c T:Addr}{clos:List (Str×Addr)}{L:List (Pos×Str)}
theorem IJ(hcode:X.env.code=.ref c)(hC:B4 X.K c T=true)(hB:fq X.mg X.base)(hcl:E7 scope X.env=pure clos)(hdef:defaultsOf params X.env=([],[]))(hL:(pos,X.env.qual++"<lambda>")∈L)(ap:Apart L)(hfs:X.ex=[]):
  PE X (.Lambda params body scope pos) (TF X params body scope clos T L):=λpins s σ H Q I h=>TH hcode (B9 I.ok.mod.oC hC) hB hcl hdef hL ap hfs pins s σ H Q I h
theorem jh{K:AD}{c T:Addr}{od:Option Addr}{vs:Array Value}{sl:Array (Option Value)}(lc:K.lookup c=some ⟨.type "code",od,.fields vs,sl⟩)
  (e:((match (vs[11]? :Option Value) with | some (.ref P')=>P' == T | _=>false)&&(match vs.getD 18 .none with | .str _ _=>true | _=>false)&&(match vs.getD 7 .none with | .int _ _=>true | _=>false)&&
   (match vs.getD 9 .none with | .bool _=>true | _=>false)&&(match vs.getD 10 .none with | .int _ _=>true | _=>false)&&c != T)=true):B4 K c T=true:=by
 unfold B4
 rw[lc]
 exact e
end
def kvsOf{α κ:Type}(key:α->κ)(xs:List α):List (κ×V):=xs.zipIdx.map λp=>(key p.1,V.int ((p.2:Nat):Int))
section
variable{α κ:Type}[DecidableEq κ]{key:α->κ}
theorem LA(xs:List α):(kvsOf key xs).length=xs.length:=by unfold kvsOf;rw[AB,List.length_zipIdx]
theorem r_(xs:List α)(x:α):kvsOf key (xs++[x])=kvsOf key xs++[(key x,V.int ((xs.length:Nat):Int))]:=by
 unfold kvsOf
 rw[List.zipIdx_append,AJ]
 simp
theorem oS:∀{kvs:List (κ×V)} {k:κ},(∀p∈kvs,p.1≠k)->bt kvs k=none
 | [],_,_=>rfl
 | p::r,k,h=>by rw[bE (h p AZ)];exact oS λq hq=>h q (AV _ hq)
theorem m6(inj:∀a b,key a=key b->a=b){xs:List α}{x:α}(h:x ∉ xs):bt (kvsOf key xs) (key x)=none:=by
 refine oS λp hp e=>h ?_
 unfold kvsOf at hp
 obtain⟨q,hq,rfl⟩:=A1.mp hp
 obtain⟨y,i⟩:=q
 have:=(List.mem_zipIdx hq).2.2
 have e':=inj _ _ e
 rw[<-e',this]
 exact C0 ..
theorem qJ{kvs more:List (κ×V)}{k:κ}(h:bt kvs k=none):bt (kvs++more) k=bt more k:=by
 induction kvs with
 | nil=>rfl
 | cons p r ih=>
  by_cases e:p.1=k
  ·rw[bO e] at h;cases h
  ·rw[bE e] at h
   show bt (p::(r++more)) k=_
   rw[bE e];exact ih h
theorem qK{kvs more:List (κ×V)}{k:κ}{v:V}(h:bt kvs k=some v):bt (kvs++more) k=some v:=by
 induction kvs with
 | nil=>cases h
 | cons p r ih=>
  by_cases e:p.1=k
  ·rw[bO e] at h
   show bt (p::(r++more)) k=_
   rw[bO e];exact h
  ·rw[bE e] at h
   show bt (p::(r++more)) k=_
   rw[bE e];exact ih h
theorem r6(inj:∀a b,key a=key b->a=b):∀(n:Nat) {xs:List α} {i:Nat} {x:α},xs.length=n->xs.Nodup->xs[i]? =some x->bt (kvsOf key xs) (key x)=some (.int ((i:Nat):Int))
 | 0,xs,i,x,hl,_,h=>by
  have:=(AF.mp h).1
  omega
 | n+1,xs,i,x,hl,nd,h=>by
  rcases List.eq_nil_or_concat xs with rfl | ⟨ys,y,e⟩
  ·simp at hl
  rw[List.concat_eq_append] at e
  subst e
  rw[r_]
  have hy:y ∉ ys:=λz=>((B7.mp nd).2.2 y z y (AR.mpr rfl)) rfl
  by_cases hi:i<ys.length
  ·rw[An hi] at h
   exact qK (r6 inj n (by simpa using hl) (B7.mp nd).1 h)
  ·have hb:=(AF.mp h).1
   rw[AG] at hb
   have hi2:i=ys.length:=by simp at hb;omega
   subst hi2
   rw[Aj (AM _),Bz] at h
   have:=AS h
   subst this
   rw[qJ (m6 inj hy)]
   exact bO rfl
end
structure t7 (α:Type) where
 Rep:α->V->Hp->Prop
 Num:Hp->Addr->List α->Prop
 same:∀{x:α} {v:V} {H H':Hp},Rep x v H->aW H H'->Rep x v H'
 keep:∀{H H':Hp} {D:Addr} {xs:List α},Num H D xs->H' D=H D->Num H' D xs
 isD:∀{H:Hp} {D:Addr} {xs:List α},Num H D xs->∃o,H D=some o/\(∀l,o≠.lst l)/\(∀l,o≠.tup l)
 there:∀{H:Hp} {D:Addr} {xs:List α} {i:Nat} {x:α} {v:V},Num H D xs->Rep x v H->xs.Nodup->xs[i]? =some x->iM H D v (some (.int ((i:Nat):Int)))
 miss:∀{H:Hp} {D:Addr} {xs:List α} {x:α} {v:V},Num H D xs->Rep x v H->x ∉ xs->iM H D v none
 put:∀{H:Hp} {D:Addr} {xs:List α} {x:α} {v:V},Num H D xs->Rep x v H->x ∉ xs->xs.length<sizeLine->∃H',iq H D v (.int ((xs.length:Nat):Int)) H'/\KB D H H'/\Num H' D (xs++[x])
 t8:∀{X:Cx} {pos kpos cpos:Pos} {x:Str} {i j:Nat},X.A.units+1<cLine->PE X (.Name x kpos) (Jw i)->PE X (.Constant (.int 0) j cpos) (tC (.int 0))->PE X (.Dict [some (.Name x kpos)] [.Constant (.int 0) j cpos] pos)
  (λσ H Q=>∃y v,σ[i]? =some (some v)/\Rep y v H/\∀D H',H D=none->Same H H'->Num H' D [y]->Q (.ref D) H')
theorem Rp(a b:Nat)(h:(Dx (a:Int):Key)=Dx (b:Int)):a=b:=by injection h with h;omega
def lM(l:List Nat):List Key:=l.map λ(x:Nat)=>(Dx (x:Int):Key)
theorem qL(a b:List Nat)(h:lM a=lM b):a=b:=by
 unfold lM at h
 induction a generalizing b with
 | nil=>cases b with
  | nil=>rfl
  | cons y b=>cases h
 | cons x a ih=>cases b with
  | nil=>cases h
  | cons y b=>
   rw[Ap,Ap] at h
   injection h with h1 h2
   rw[Rp _ _ h1,ih b h2]
theorem p6(l:List Nat):(lM l).map kV=(l.map λ(x:Nat)=>V.int (x:Int)):=by unfold lM;rw[EG];rfl
def qM:t7 (List Nat) where
 Rep:=λx v H=>∃p,v=.ref p/\H p=some (.tup (x.map λ(z:Nat)=>V.int (z:Int)))
 Num:=λH D xs=>H D=some (.dT (kvsOf lM xs))
 same:=λ{x v H H'} ⟨p,e,h⟩ k=>⟨p,e,k _ _ h⟩
 keep:=λh e=>e.trans h
 isD:=λh=>⟨_,h,(λl z=>by cases z),(λl z=>by cases z)⟩
 there:=λ{H D xs i x v} h ⟨p,r,hp⟩ nd e=>by
  subst r
  exact .inr ⟨_,lM x,p,.inl h,rfl,by rw[p6];exact hp,(r6 qL _ rfl nd e).symm⟩
 miss:=λ{H D xs x v} h ⟨p,r,hp⟩ n=>by
  subst r
  exact .inr ⟨_,lM x,p,.inl h,rfl,by rw[p6];exact hp,(m6 qL n).symm⟩
 put:=λ{H D xs x v} h ⟨p,r,hp⟩ n hl=>by
  subst r
  refine⟨_,iq.t (k:=lM x) h (by rw[p6];exact hp) (by rw[LA];exact hl),KB.write,?_⟩
  rw[af,mT _ (m6 qL n),r_]
 t8:=λ{X pos kpos cpos x i j} hu h1 h2 pins s σ H Q I q=>by
  obtain⟨y,v,hv,⟨p,rfl,hp⟩,q⟩:=q
  refine N0 (Nat.lt_of_succ_lt hu) h1 h2 pins s σ H Q I λD hD=>⟨_,hv,?_⟩
  have sD:=Same.new (o:=.dT []) hD
  refine⟨af,p,lM y,rfl,by rw[p6];exact sD _ _ hp,q D _ hD (sD.kbn hD KB.write) ?_⟩
  rw[af];rfl
theorem gX.mk'{ps aI:List Str}{scope:Scope}(h1:scope.kind=.function)(h2:scope.isCoroutine=false)(h3:scope.isGenerator=false)(h4:∀x∈scope.names,x.2≠.cell)(h5:∀x∈ps,scope.names.lookup x=some .local)(h6:∀x∈aI,scope.names.lookup x=some .free)
  (h7:∀p∈scope.names,p.2=.free->p.1∈aI) (h8:(ps++aI).Nodup):gX ps aI scope:=⟨h1,h2,h3,h4,h5,h6,λx e=>h7 (x,.free) (BF e) rfl,h8⟩
def FnAt(P:Ak)(w:World)(K:AD)(mg:Str->Option Value)(base:Heap)(k:Nat)(f:Addr)(n:Nat)(sp:Sp):Prop:=
 ∃(o:Obj) (fd:Aw) (ps:List Str),base.get? f=some o/\o.data=.func fd/\ps.length=n/\(∀us:List Value,us.length=ps.length->Gf fd ⟨us,[]⟩=pure (ps.zip us))/\aR P w K mg base bj k f fd ps sp
theorem kT{D:List Addr}{H1 H2:Hp}(s:Same (dk D H1) H2):Same H1 (gY D H1 H2):=λb o e=>by
 by_cases hb:b∈D
 ·rw[IH hb];exact e
 ·rw[eB hb];exact s _ _ (by rw[gZ hb];exact e)
theorem m7{D:List Addr}{H:Hp}{b:Addr}{o:HO}(hD:∀a∈D,∃φ,H a=some (.ext φ))(e:H b=some o)(hn:∀φ,o≠.ext φ):dk D H b=some o:=by
 rw[gZ λz=>?_]
 ·exact e
 ·obtain⟨φ,q⟩:=hD b z
  rw[e] at q
  exact hn φ (AS q)
def r9(c:Addr)(v:V):HO:=.ext λh=>∃u,h.IsCell c (some u)/\RelV v u
theorem N1{P:Ak}{w:World}{H:Hp}{h:Heap}{c:Addr}{v:V}{u:Value}(e:h.IsCell c (some u))(r:RelV v u):bM P w H h c (r9 c v):=
 ⟨⟨u,e,r⟩,(let ⟨o,ho,_⟩:=e;⟨o,ho⟩),λh1 h2 ⟨u,⟨o,ho,hd⟩,r⟩ k=>⟨u,⟨o,k o ho,hd⟩,r⟩⟩
def kd(cs:List (Addr×V))(H:Hp):Hp:=λb=>match cs.lookup b with
 | some v=>some (r9 b v)
 | none=>H b
theorem IK{cs:List (Addr×V)}{H:Hp}{b:Addr}{v:V}(h:cs.lookup b=some v):kd cs H b=some (r9 b v):=by unfold kd;rw[h]
theorem qN{cs:List (Addr×V)}{H:Hp}{b:Addr}(h:cs.lookup b=none):kd cs H b=H b:=by unfold kd;rw[h]
theorem oT{cs:List (Addr×V)}{H:Hp}(h:∀c v,cs.lookup c=some v->H c=none):Same H (kd cs H):=λb o e=>by
 cases q:cs.lookup b with
 | none=>rw[qN q];exact e
 | some v=>rw[h b v q] at e;cases e
def hJ(X:Cx)(σ:St)(cs:List (Addr×V)):Prop:=∀c v,cs.lookup c=some v->∃(i:Nat) (x:Str),X.N[i]? =some x/\σ[i]? =some (some v)/\X.env.scope.names.lookup x=some .cell/\X.env.cells.lookup x=some c
section
variable{X:Cx}{pins:List (Addr×Obj)}{σ:St}{H:Hp}{s:AI}{cs:List (Addr×V)}
theorem hJ.free(C:hJ X σ cs)(I:Inv X pins σ H s):∀c v,cs.lookup c=some v->H c=none:=λc v e=>by
 obtain⟨i,x,_,_,_,h⟩:=C c v e
 exact I.gb x c h
theorem hJ.hok(C:hJ X σ cs)(I:Inv X pins σ H s):cV X.prog X.w (kd cs H) s.heap:=λb u e=>by
 have sm:=oT (C.free I)
 cases q:cs.lookup b with
 | some v=>
  rw[IK q] at e
  cases e
  obtain⟨i,x,h1,h2,h3,h4⟩:=C b v q
  obtain⟨m,_,hl⟩:=I.loc
  obtain⟨u,r,l⟩:=hl i x v h1 h2 (.inr (.inl h3))
  rcases l with⟨z,_⟩ | ⟨_,c,e,z⟩
  ·have z':X.env.scope.names.lookup x=some .local:=z
   rw[h3] at z';cases z'
  ·rw[h4] at e;cases e
   exact N1 z r
 | none=>
  rw[qN q] at e
  exact(I.hok b u e).stay (λ_ _ _ z=>z) (λd z=>sm _ _ z) λd xs z=>sm _ _ z
theorem hJ.un(C:hJ X σ cs)(I:Inv X pins σ H s)(hfn:∀x,X.fn x=true)(hex:X.ex=[]):Un X.fs [] X.H₀ (kd cs H) X.s₀.heap s.heap:=by
 have B:=I.base
 rw[hex] at B
 have sm:=oT (C.free I)
 refine⟨B.keep,B.slot,λb o e n hx=>?_,B.there,λb xs e=>sm _ _ (B.tups b xs e),λb o xs e=>sm _ _ (B.jW b o xs e),λb ps e=>?_⟩
 ·cases q:cs.lookup b with
  | none=>rw[qN q];exact B.free b o e n hx
  | some v=>
   obtain⟨i,x,_,_,_,h4⟩:=C b v q
   exact absurd (AY (AN e) (I.ok.cab x b (hfn x) h4)) (BQ _)
 ·obtain⟨m,z⟩:=B.jX b ps e
  exact⟨m,sm _ _ z⟩
end
abbrev TB:=(St->V->Hp->Prop)->St->Hp->Prop
def SPR(X:Cx)(pins:List (Addr×Obj))(R:St->V->Hp->Prop)(f:Flow)(s':AI):Prop:=
 match f with
 | .ret u=>∃v σ' H',Inv X pins σ' H' s'/\RelV v u/\R σ' v H'
 | _=>False
def m8(X:Cx)(st:List Stmt)(t:TB):Prop:=
 ∀(pins:List (Addr×Obj)) (s:AI) (σ:St) (H:Hp) (R:St->V->Hp->Prop),Inv X pins σ H s->t R σ H->wpAny (model X.prog X.w) X.A (execs st X.env) (SPR X pins R) X.xe s
section
variable{X:Cx}{st:Stmt}{rest:List Stmt}{t:TS}{u:TB}{e:Expr}{te:TE}{pos:Pos}
theorem TX(he:PE X e te):m8 X [.Return (some e) pos] (λR σ H=>te σ H (R σ)):=by
 intro pins s σ H R I h
 refine ES (wpAny_Return_some (aM (he pins s σ H _ I h) λv s1 ⟨x,H1,I1,r1,q1⟩=>?_))
 exact⟨x,σ,H1,I1,r1,q1⟩
theorem mn(h1:PS X st t)(h2:m8 X rest u):m8 X (st::rest) (λR σ H=>t {nx:=u R,rt:=λ_ _=>False} σ H):=by
 intro pins s σ H R I h
 refine ES (aM (h1 pins s σ H {nx:=u R,rt:=λ_ _=>False} I h) λf s1 q=>?_)
 cases f with
 | next=>
  obtain⟨σ',H',I',q⟩:=q
  exact h2 pins s1 σ' H' R I' q
 | ret v=>obtain⟨_,_,_,_,_,z⟩:=q;exact z.elim
 | brk=>obtain⟨_,_,_,z⟩:=q;exact z.elim
 | cont=>obtain⟨_,_,_,z⟩:=q;exact z.elim
theorem m8.ql{st:List Stmt}(h:m8 X.ql st u):m8 X st u:=λpins s σ H R I hw=>
 Bi (h pins s σ H R (I.wish _) hw) (λf s' q=>by
  cases f with
  | ret v=>obtain⟨x,σ',H',J,r,z⟩:=q;exact⟨x,σ',H',J.ig,r,z⟩
  | next=>exact q
  | brk=>exact q
  | cont=>exact q) λ_ _ z=>Be z
end
theorem jr.okR{P:Ak}{w:World}{K:AD}{mg:Str->Option Value}{base:Heap}{x qual:Str}{st:Stmt}{f:Addr}{fd:Aw}{cd:Value}{N ps:List Str}{k:Nat}{sp:Sp}(F:jr K x qual st f fd cd)(S:aO N ps (ah st))(len:∀vs H Q E,sp vs H Q E->vs.length=ps.length)
  (hbody:∀(A:A9) (outer:List Env) (s:AI) (H:Hp) (vs:List V) (Q:VK) (E:XK),(∀x y c,(Ej qual (ah st) s.heap.objs.size f cd).cells.lookup x=some c->(Ej qual (ah st) s.heap.objs.size f cd).cells.lookup y=some c->x=y)->aP k (A.deeper (Ej qual (ah st) s.heap.objs.size f cd))->sp vs H Q E->
   ∃t,m8 (j0 bj P w K mg base N qual (ah st) f cd A outer s H E).ql (aC st) t/\t (λσ v H2=>∃cs,hJ (j0 bj P w K mg base N qual (ah st) f cd A outer s H E) σ cs/\((∀c v,cs.lookup c=some v->H2 c=none)->Q v (kd cs H2))) (start N vs) H):aR P w K mg base bj (k+1) f fd ps sp:=by
 obtain⟨oc,od,dV,kV,doc,pm,an,ct,osl,rfl,lk,hcd⟩:=F.ex
 refine⟨len,λA outer s H args us vs Q E hr e0 hb r hsp=>?_⟩
 have hl:=len _ _ _ _ hsp
 have KX:K.In s.heap:=e0.mod.oC.keeps λb o e=>(e0.bs b o e).1
 have lim:s.heap.NoLimit:=e0.mod.nolimit.keeps λb o e=>(e0.bs b o e).1
 have hkind:∀y∈ps.zip us,(ah st).names.lookup y.1=some .local∨((ah st).names.lookup y.1=some .cell/\((cellsFrom (s.heap.objs.size+1) (ah st).names []).lookup y.1).isSome=true):=λ⟨n,v⟩ hy=>by
  rcases S.par n (DE hy).1 with q | q
  ·exact .inl q
  ·exact .inr ⟨q,EB _ _ _ (.inl q)⟩
 refine EN hr.depth (KX _ _ lk) rfl S.co S.gen rfl (HF KX hcd) (hb _ _ _ _ ?_)
 refine E1 S.kind hkind λenv he s1 x=>?_
 subst he
 refine⟨lim.keeps x.toInCall.keep,codeAny_func ?_⟩
 have I:Inv (j0 bj P w K mg base N qual (ah st) f cd A outer s H E) [] (start N vs) H s1:=uY S hr.hd e0 hl r x
 obtain⟨t,ht,hq⟩:=hbody A outer s H vs Q E I.ok.inj (hr.deeper _) hsp
 refine Bi (ht.ql [] s1 (start N vs) H _ I hq) (λfl s' hs=>?_) λe s' hs=>hs
 cases fl with
 | ret u=>
  obtain⟨v,σ',H',J,rv,cs,C,q⟩:=hs
  exact⟨v,kd cs H',J.os,J.bare,C.un J (λ_=>rfl) rfl,C.hok J,rv,q (C.free J)⟩
 | next=>exact Be hs
 | brk=>exact Be hs
 | cont=>exact Be hs
structure JX (K:AD)(mg:Str->Option Value)(base:Heap)(D:List Addr)(H:Hp)(base':Heap):Prop where
 sub:∀b o,base.get? b=some o->base'.get? b=some o
 mod:Mod K mg base'
 ext:∀a φ,a∈D->H a=some (.ext φ)->φ base'
theorem Wide.b{X:Cx}{σ:St}{D:List Addr}{H:Hp}{base':Heap}(W:Wide X σ D H base'):JX X.K X.mg X.base D H base':=⟨W.sub,W.mod,W.ext⟩
def iR(P:Ak)(w:World)(K:AD)(mg:Str->Option Value)(base:Heap)(H:Hp)(D:List Addr)(k:Nat)(f:Addr)(n:Nat)(sp:Sp):Prop:=∀base',JX K mg base D H base'->FnAt P w K mg base' k f n sp
theorem iR.same{P:Ak}{w:World}{K:AD}{mg:Str->Option Value}{base:Heap}{H H':Hp}{D:List Addr}{k:Nat}{f:Addr}{n:Nat}{sp:Sp}(F:iR P w K mg base H D k f n sp)(k':∀b φ,b∈D->H b=some (.ext φ)->H' b=some (.ext φ)):iR P w K mg base H' D k f n sp:=
 λbase' W=>F base' ⟨W.sub,W.mod,λa φ ha e=>W.ext a φ ha (k' a φ ha e)⟩
theorem iR.lam{X:Cx}{D:List Addr}{H:Hp}{params:CP}{body:Expr}{scope:Scope}{clos:List (Str×Addr)}{c' f:Addr}{ctv:Value}{ps aI:List Str}{fvs:List V}{k:Nat}{sp:Sp}
  (hf:H f=some (kQ f (lamO X params body scope clos c' ctv))) (TY:f∈D) (hc:H c'=some (kS c' (X.env.qual++"<lambda>"))) (hcD:c'∈D) (S:gX ps aI scope) (ZL:∀x y c,X.env.cells.lookup x=some c->X.env.cells.lookup y=some c->x=y) (sub:∀p∈clos,X.env.cells.lookup p.1=some p.2/\p.1∈aI)
  (vals:Bv (λ(x:Str) (v:V)=>∃c,clos.lookup x=X.env.cells.lookup x/\X.env.cells.lookup x=some c/\c∈D/\H c=some (r9 c v)) aI fvs)
  (hb:∀(us:List Value),us.length=ps.length->Gf (PySem.W.kla_fn "<lambda>" (X.env.qual++"<lambda>") params body scope clos ((X.mg "__name__").getD .none) (.ref c') ctv) ⟨us,[]⟩=pure (ps.zip us)) (len:∀vs H Q E,sp vs H Q E->vs.length=ps.length)
  (hbody:∀(base':Heap),JX X.K X.mg X.base D H base'->∀(A:A9) (outer:List Env) (s:AI) (H:Hp) (vs:List V) (Q:VK) (E:XK),aP k (A.deeper (CN (X.env.qual++"<lambda>") scope s.heap.objs.size f (.ref c') clos))->sp vs H Q E->
   ∃t,PE (Ls X.prog X.w X.K X.mg base' (ps++aI) (X.env.qual++"<lambda>") scope f (.ref c') clos A outer s H) body t/\t (vs.map some++fvs.map some) H Q):iR X.prog X.w X.K X.mg X.base H D (k+1) f ps.length sp:=λbase' W=>by
 have ho:base'.get? f=some (lamO X params body scope clos c' ctv):=W.ext f _ TY hf
 have xY:base'.CodeRec (.ref c') (X.env.qual++"<lambda>"):=W.ext c' _ hcD hc
 have vals':Bv (λ(x:Str) (v:V)=>∃c u,clos.lookup x=some c/\base'.IsCell c (some u)/\RelV v u) aI fvs:=Paired.mP vals λx v ⟨c,h0,h1,h2,h3⟩=>by
  obtain⟨u,e,r⟩:=W.ext c _ h2 h3
  exact⟨c,u,h0.trans h1,e,r⟩
 have sub':∀x c,clos.lookup x=some c->X.env.cells.lookup x=some c/\x∈aI:=λx c e=>sub (x,c) (BF e)
 have C:iP base' clos aI fvs:=by
  refine⟨λx y c h1 h2=>ZL x y c (sub' x c h1).1 (sub' y c h2).1,λx c h=>?_,vals'⟩
  obtain⟨i,hi⟩:=BH (sub' x c h).2
  obtain⟨v,_,c2,u,h1,h2,_⟩:=dj vals' hi
  rw[h] at h1;cases h1
  exact⟨_,h2⟩
 exact⟨_,_,ps,ho,rfl,rfl,hb,Tz ho xY S C len (hbody base' W)⟩
theorem x8{α β:Type}[BEq α][LawfulBEq α]:∀{l:List (α×β)} {a:α} {b:β},l.lookup a=some b->(a,b)∈l
 | (x,y)::l,a,b,h=>by
  rw[Cy] at h
  by_cases e:a=x
  ·subst e
   rw[beq_self_eq_true] at h
   cases h
   exact AZ
  ·rw[show(a == x)=false from beq_false_of_ne e] at h
   exact AV _ (x8 h)
structure x9 (X:Cx)(σ:St)(l:List (Nat×Str×Addr×V)):Prop where
 at':∀q∈l,X.N[q.1]? =some q.2.1/\σ[q.1]? =some (some q.2.2.2)/\X.env.scope.names.lookup q.2.1=some .cell/\X.env.cells.lookup q.2.1=some q.2.2.1
 nd:(l.map (·.2.1)).Nodup
def oU(l:List (Nat×Str×Addr×V)):List (Addr×V):=l.map λq=>(q.2.2.1,q.2.2.2)
theorem x9.cells{X:Cx}{σ:St}{l:List (Nat×Str×Addr×V)}(C:x9 X σ l):hJ X σ (oU l):=λc v h=>by
 obtain⟨q,hq,e⟩:=A1.mp (show(c,v)∈oU l from x8 h)
 cases e
 obtain⟨h1,h2,h3,h4⟩:=C.at' q hq
 exact⟨q.1,q.2.1,h1,h2,h3,h4⟩
theorem mq{α β:Type}[BEq α][LawfulBEq α]:∀{l:List (α×β)} {a:α} {b:β},(a,b)∈l->∃b',l.lookup a=some b'
 | (x,y)::l,a,b,h=>by
  rw[Cy]
  by_cases e:a=x
  ·subst e;rw[beq_self_eq_true];exact⟨y,rfl⟩
  ·rw[show(a == x)=false from beq_false_of_ne e]
   rcases Ac.mp h with z | z
   ·cases z;exact absurd rfl e
   ·exact mq z
theorem IL:∀{l:List (Nat×Str×Addr×V)},(l.map (·.2.1)).Nodup->∀q∈l,∀p∈l,q.2.1=p.2.1->q=p
 | [],_=>λ_ h=>by cases h
 | x::l,nd=>λq hq p hp e=>by
  rw[Ap,B_] at nd
  rcases Ac.mp hq with z | z
  ·rcases Ac.mp hp with y | y
   ·rw[z,y]
   ·exact absurd (A1.mpr ⟨p,y,by rw[<-e,z]⟩) nd.1
  ·rcases Ac.mp hp with y | y
   ·exact absurd (A1.mpr ⟨q,z,by rw[e,y]⟩) nd.1
   ·exact IL nd.2 q z p y e
theorem x9.look{X:Cx}{σ:St}{l:List (Nat×Str×Addr×V)}(C:x9 X σ l)(inj:∀x y c,X.env.cells.lookup x=some c->X.env.cells.lookup y=some c->x=y){q:Nat×Str×Addr×V}(hq:q∈l):(oU l).lookup q.2.2.1=some q.2.2.2:=by
 obtain⟨v,hv⟩:=mq (l:=oU l) (A1.mpr ⟨q,hq,rfl⟩)
 obtain⟨p,hp,e⟩:=A1.mp (show(q.2.2.1,v)∈oU l from x8 hv)
 injection e with e1 e2
 have:=IL C.nd q hq p hp (inj _ _ _ (C.at' q hq).2.2.2 (by rw[<-e1];exact(C.at' p hp).2.2.2))
 rw[hv,<-e2,this]
theorem x9.got{X:Cx}{σ:St}{l:List (Nat×Str×Addr×V)}(C:x9 X σ l)(inj:∀x y c,X.env.cells.lookup x=some c->X.env.cells.lookup y=some c->x=y)(H:Hp){q:Nat×Str×Addr×V}(hq:q∈l):kd (oU l) H q.2.2.1=some (r9 q.2.2.1 q.2.2.2):=IK (C.look inj hq)
theorem apart1(p:Pos×Str):Apart [p]:=λa ha b hb _ _=>by rw[AR.mp ha,AR.mp hb]
section
variable{X:Cx}
def W8(K:AD):List V->Hp->VK->Prop:=λxs H Q=>∃(a:Addr) (ns:List Int),xs=[.ref a]/\bz K H a (ns.map V.int)/\ns≠[]/\∀m:Int,m∈ns->(∀x∈ns,m<=x)->Q (.int m) H
theorem LB(K:AD)(hc:X.calm=true)(hK:X.K=K:=by rfl):cS X (.builtin "min") (W8 K):=by
 subst hK
 intro pins s σ H xs us Q I r h
 obtain⟨a,ns,rfl,hq,hne,q⟩:=h
 obtain⟨u,rfl,ru⟩:=vals1 r
 cases ru
 obtain⟨its,rv,p,_⟩:=I.list hq
 have hi:Ft its ns:=intsAre_of rv
 obtain⟨xs,e⟩:=hi.allInts.items
 have hns:ns=xs.toList.map (·.1):=by rw[<-hi.numsOf,<-nums_intItems,<-e]
 have hsz:0<xs.size:=by
  rcases Nat.eq_zero_or_pos xs.size with z | z
  ·have:xs.toList=[]:=List.eq_nil_of_length_eq_zero (by rw[A6];exact z)
   exact absurd (by rw[hns,this];rfl) hne
  ·exact z
 have hl:=p.isList
 rw[e] at hl
 refine min_intList (I.ok.hd hc) hl hsz λv h' tk hv hk=>?_
 obtain⟨t,rfl⟩:=intItems_at hv
 obtain⟨h1,h2⟩:=argBest_lt (numAt xs) (xs.size-1)
 have na:∀j,j<xs.size->ns[j]? =some (numAt xs j):=λj hj=>by
  rw[hns,AW,Bd,numAt,BX hj]
  rfl
 refine⟨.int _,H,I.kept hk,⟨t,rfl⟩,q _ (AL (na _ (by omega))) λx hx=>?_⟩
 obtain⟨i,hi'⟩:=BH hx
 have hlt:i<xs.size:=by
  have:=(AF.mp hi').1
  rw[hns,AB,A6] at this
  exact this
 rw[na i hlt] at hi'
 have e3:=AS hi'
 rw[<-e3]
 exact h2 i (by omega)
end
abbrev cO (h:Heap)(z TI TO:Addr)(f0:Value)(fl:Bool):Prop:=h.get? z=some {cls:=.type "zip",dict:=none,data:=.fields #[f0,.bool fl,.bool false,.ref TI,.ref TO],slots:= #[]}
section
variable{prog:Ak}{w:World}{A:A9}{E:Value->AI->Prop}{s:AI}
theorem vt{z TI TO i1 i2 l1 l2:Addr}{k:Nat}{f0:Value}{fl:Bool}{xs ys:Array Value}{x y a b:Value}{Q:Value->AI->Prop}(D:DI z TI TO i1 i2 l1 l2)(gz:cO s.heap z TI TO f0 fl)(hfree:∀Q':Bool->AI->Prop,Q' true s->wpAny (model prog w) A (Ah (.ref z)) Q' E s)(gI:BP s.heap TI (.ref i1) (.ref i2))(gO:BP s.heap TO a b)
  (g1:s.heap.IsTupleIter i1 l1 k) (g2:s.heap.IsTupleIter i2 l2 k) (m1:s.heap.IsTuple l1 xs) (m2:s.heap.IsTuple l2 ys) (ex:xs[k]? =some x) (ey:ys[k]? =some y)
  (q:∀h',IsZip h' z TI TO (Aq s.heap.objs.size)->BP h' TO x y->h'.IsTupleIter i1 l1 (k+1)->h'.IsTupleIter i2 l2 (k+1)->BP h' s.heap.objs.size x y->h'.objs.size=s.heap.objs.size+1->
   (∀c o,c≠z->c≠TO->c≠i1->c≠i2->s.heap.get? c=some o->h'.get? c=some o)->Q (.ref s.heap.objs.size) {s with heap:=h'}):
  wpAny (model prog w) A (Builtin.«zip.__next__» ⟨[.ref z],[]⟩) (λfin s'=>∃v,fin=.done (.ret v)/\Q v s') E s:=by
 show wpAny _ _ (field (.ref z) 2 >>= _) _ _ _;refine AA (BA gz rfl (x:=.bool false) rfl ?_)
 show wpAny _ _ (field (.ref z) 3 >>= _) _ _ _;refine AA (BA gz rfl (x:=.ref TI) rfl ?_);refine AA (BU gI rfl ?_)
 show wpAny _ _ (Ah (.ref z) >>= _) _ _ _;refine AA (hfree _ ?_);simp only[if_true];refine AA (Ca ?_)
 refine AA (BA gz rfl (x:=.ref TO) rfl ?_);refine AA (BD gz (by simp) λh1 z1 s1=>?_)
 replace z1:cO h1 z TI TO .ellipsis fl:=z1
 refine AA ?_;simp only[EW,Eo,CL,C5];refine AA (AA (Dv ?_))
 show wpAny _ _ (A2 (.ref i1) >>= _) _ _ _;refine AA (gB (bh g1 s1.extBut D.i1z) (cY m1 s1.extBut D.l1z) ex λh2 LC s2=>AH ?_)
 have O2:BP h2 TO a b:=s2.extBut _ _ D.TOi1 (s1.extBut _ _ D.TOz gO)
 refine AA (BU O2 rfl ?_);refine AA (DW O2 λh3 O3 s3=>?_)
 replace O3:BP h3 TO x b:=O3
 refine AA (FO (AH ?_));refine AA (AA (Dv ?_))
 show wpAny _ _ (A2 (.ref i2) >>= _) _ _ _;refine AA (gB (bh (bh (bh g2 s1.extBut D.i2z) s2.extBut D.i12.symm) s3.extBut D.TOi2.symm) (cY (cY (cY m2 s1.extBut D.l2z) s2.extBut D.l2i1) s3.extBut D.l2TO) ey λh4 T_ s4=>AH ?_)
 have O4:BP h4 TO x b:=s4.extBut _ _ D.TOi2 O3
 refine AA (BU O4 rfl ?_);refine AA (DW O4 λh5 O5 s5=>?_)
 replace O5:BP h5 TO x y:=O5
 refine AA (FO (AH (AH ?_)));refine AA (BU O5 rfl ?_);refine AA (FD ?_)
 have sz:h5.objs.size=s.heap.objs.size:=by rw[s5.1,s4.1,s3.1,s2.1,s1.1]
 have z5:cO h5 z TI TO .ellipsis fl:=s5.extBut _ _ D.TOz.symm (s4.extBut _ _ D.i2z.symm (s3.extBut _ _ D.TOz.symm (s2.extBut _ _ D.i1z.symm z1)))
 have k5:∀c o,c≠z->c≠TO->c≠i1->c≠i2->s.heap.get? c=some o->h5.get? c=some o:=λc o c1 c2 c3 c4 e=>s5.extBut _ _ c2 (s4.extBut _ _ c4 (s3.extBut _ _ c2 (s2.extBut _ _ c3 (s1.extBut _ _ c1 e))))
 have a5:h5.IsTupleIter i1 l1 (k+1):=bh (bh (bh LC s3.extBut D.TOi1.symm) s4.extBut D.i12) s5.extBut D.TOi1.symm
 have b5:h5.IsTupleIter i2 l2 (k+1):=bh T_ s5.extBut D.TOi2.symm
 have LF:z<h5.objs.size:=AN z5
 show wpAny _ _ (Bs (.ref z) (.ref h5.objs.size) >>= _) _ _ _
 refine AA ?_;unfold Bs
 have z6:cO (h5.push {cls:=.type "tuple",data:=.seq #[x,y]}) z TI TO .ellipsis fl:=AE _ z5
 refine AA (BD z6 (by simp) λh7 z7 s7=>?_)
 replace z7:cO h7 z TI TO (Aq h5.objs.size) fl:=z7
 refine BD z7 (by simp) λh8 z8 s8=>?_
 replace z8:IsZip h8 z TI TO (Aq h5.objs.size):=z8
 have up:∀c o,c≠z->h5.get? c=some o->h8.get? c=some o:=λc o c1 e=>s8.extBut _ _ c1 (s7.extBut _ _ c1 (AE _ e))
 have T8:BP h8 h5.objs.size x y:=s8.extBut _ _ (Bo LF) (s7.extBut _ _ (Bo LF) (AO _ rfl))
 have e8:h8.objs.size=h5.objs.size+1:=by rw[s8.1,s7.1,Ay]
 rw[sz] at z8 T8 e8
 refine AH ⟨_,rfl,?_⟩;show Q (.ref h5.objs.size) _;rw[sz]
 exact q h8 z8 (up _ _ D.TOz O5) (let ⟨o,ho,r⟩:=a5;⟨o,up _ _ D.i1z ho,r⟩) (let ⟨o,ho,r⟩:=b5;⟨o,up _ _ D.i2z ho,r⟩) T8 e8 λc o c1 c2 c3 c4 e=>up c o c1 (k5 c o c1 c2 c3 c4 e)
theorem sf{z TI TO i1 i2 l1 l2:Addr}{k:Nat}{f0:Value}{fl:Bool}{xs ys:Array Value}{a b:Value}{Q:Fin->AI->Prop}(hh:A.handled=none)(D:DI z TI TO i1 i2 l1 l2)(gz:cO s.heap z TI TO f0 fl)(hfree:∀Q':Bool->AI->Prop,Q' true s->wpAny (model prog w) A (Ah (.ref z)) Q' E s)(gI:BP s.heap TI (.ref i1) (.ref i2))(gO:BP s.heap TO a b)
  (g1:s.heap.IsTupleIter i1 l1 k) (g2:s.heap.IsTupleIter i2 l2 k) (m1:s.heap.IsTuple l1 xs) (m2:s.heap.IsTuple l2 ys) (ex:xs[k]? =none)
  (q:∀h' e,(∀c o,c≠z->c≠TO->c≠i1->c≠i2->s.heap.get? c=some o->h'.get? c=some o)->(∃o,h'.get? e=some o/\o.cls=.type "StopIteration")->E (.ref e) {s with heap:=h'}):
  wpAny (model prog w) A (Builtin.«zip.__next__» ⟨[.ref z],[]⟩) Q E s:=by
 show wpAny _ _ (field (.ref z) 2 >>= _) _ _ _;refine AA (BA gz rfl (x:=.bool false) rfl ?_)
 show wpAny _ _ (field (.ref z) 3 >>= _) _ _ _;refine AA (BA gz rfl (x:=.ref TI) rfl ?_);refine AA (BU gI rfl ?_)
 show wpAny _ _ (Ah (.ref z) >>= _) _ _ _;refine AA (hfree _ ?_);simp only[if_true];refine AA (Ca ?_)
 refine AA (BA gz rfl (x:=.ref TO) rfl ?_);refine AA (BD gz (by simp) λh1 z1 s1=>?_)
 replace z1:cO h1 z TI TO .ellipsis fl:=z1
 refine AA ?_;simp only[EW,Eo,CL,C5];refine AA (AA (Dv ?_))
 show wpAny _ _ (A2 (.ref i1) >>= _) _ _ _;refine AA (lK hh (bh g1 s1.extBut D.i1z) (cY m1 s1.extBut D.l1z) ex λh2 e s2 he=>?_)
 obtain⟨oe,hoe,hce⟩:=he
 have z2:cO h2 z TI TO .ellipsis fl:=s2 _ _ D.i1z.symm z1
 have T2:e≠z:=λx=>by subst x;rw[z2] at hoe;cases hoe;simp at hce
 refine BD z2 (by simp) λh3 _ s3=>q h3 e (λc o c1 _ c3 _ x=>s3.extBut _ _ c1 (s2 _ _ c3 (s1.extBut _ _ c1 x))) ⟨oe,s3.extBut _ _ T2 hoe,hce⟩
theorem yb{z TI TO p:Addr}{fl:Bool}{op:Obj}(gz:cO s.heap z TI TO (Aq p) fl)(gp:s.heap.get? p=some op):
  wpAny (model prog w) A (Ah (.ref z)) (λr s'=>r=false/\∃h0,s'={s with heap:=h0}/\cO h0 z TI TO (Aq p) true/\B6 z s.heap h0) E s:=by
 unfold Ah
 refine AA (BA gz rfl (x:=Aq p) rfl ?_)
 show wpAny _ _ (loadIfAlive ((p:Int).toNat) >>= _) _ _ _
 rw[Ag]
 refine AA (PySem.W.kdx_alive gp ?_)
 simp only[Option.isNone_some,CY,if_false]
 refine AA (BA gz rfl (x:=.bool fl) rfl ?_)
 cases fl with
 | true=>
  rw[if_neg (show ¬((DS true != DS true)=true) from Am)]
  exact AH ⟨rfl,s.heap,rfl,gz,HY _ _⟩
 | false=>
  rw[if_pos (show(DS false != DS true)=true from rfl)]
  refine AA (BD gz (by simp) λh₃ he₃ hs₃=>?_)
  exact AH ⟨rfl,h₃,rfl,he₃,hs₃⟩
theorem yc{z TI TO p:Addr}{fl:Bool}(gz:cO s.heap z TI TO (Aq p) fl)(gp:s.heap.get? p=none)(Q':Bool->AI->Prop)(h:Q' true s):wpAny (model prog w) A (Ah (.ref z)) Q' E s:=by
 unfold Ah
 refine AA (BA gz rfl (x:=Aq p) rfl ?_)
 show wpAny _ _ (loadIfAlive ((p:Int).toNat) >>= _) _ _ _
 rw[Ag]
 refine AA ?_
 have al:∀Q:Option Obj->AI->Prop,Q none s->wpAny (model prog w) A (loadIfAlive p) Q E s:=λQ h=>by
  have h':Q (s.heap.get? p) s:=by rw[gp];exact h
  exact λ_ _ _=>h'
 refine al _ ?_
 exact AH h
theorem yd{z TI TO:Addr}{fl:Bool}(gz:cO s.heap z TI TO .none fl)(Q':Bool->AI->Prop)(h:Q' true s):wpAny (model prog w) A (Ah (.ref z)) Q' E s:=by
 unfold Ah
 refine AA (BA gz rfl (x:=.none) rfl (AH h))
theorem LG{z TI TO i1 i2 l1 l2 p:Addr}{k:Nat}{fl:Bool}{op:Obj}{xs ys:Array Value}{x y a b:Value}{Q:Value->AI->Prop}(D:DI z TI TO i1 i2 l1 l2)(gz:cO s.heap z TI TO (Aq p) fl)(gp:s.heap.get? p=some op)(gI:BP s.heap TI (.ref i1) (.ref i2))(gO:BP s.heap TO a b)
  (g1:s.heap.IsTupleIter i1 l1 k) (g2:s.heap.IsTupleIter i2 l2 k) (m1:s.heap.IsTuple l1 xs) (m2:s.heap.IsTuple l2 ys) (ex:xs[k]? =some x) (ey:ys[k]? =some y)
  (q:∀h',cO h' z TI TO (Aq p) true->BP h' TO a b->h'.IsTupleIter i1 l1 (k+1)->h'.IsTupleIter i2 l2 (k+1)->BP h' s.heap.objs.size x y->h'.objs.size=s.heap.objs.size+1->
   (∀c o,c≠z->c≠TO->c≠i1->c≠i2->s.heap.get? c=some o->h'.get? c=some o)->Q (.ref s.heap.objs.size) {s with heap:=h'}):
  wpAny (model prog w) A (Builtin.«zip.__next__» ⟨[.ref z],[]⟩) (λfin s'=>∃v,fin=.done (.ret v)/\Q v s') E s:=by
 show wpAny _ _ (field (.ref z) 2 >>= _) _ _ _;refine AA (BA gz rfl (x:=.bool false) rfl ?_)
 show wpAny _ _ (field (.ref z) 3 >>= _) _ _ _;refine AA (BA gz rfl (x:=.ref TI) rfl ?_);refine AA (BU gI rfl ?_)
 show wpAny _ _ (Ah (.ref z) >>= _) _ _ _
 refine AA (Bi (yb gz gp) (λr s' h=>?_) λ_ _ h=>h)
 obtain⟨rfl,h0,rfl,z0,sb⟩:=h
 simp only[CY,if_false,List.forIn_toArray,CL,C5]
 refine AA (AA (AA (Bb ?_)))
 show wpAny _ _ (A2 (.ref i1) >>= _) _ _ _
 refine AA (gB (bh g1 sb.extBut D.i1z) (cY m1 sb.extBut D.l1z) ex λh2 LC s2=>AH (AH ?_))
 refine AA (AA (Bb ?_))
 show wpAny _ _ (A2 (.ref i2) >>= _) _ _ _
 refine AA (gB (bh (bh g2 sb.extBut D.i2z) s2.extBut D.i12.symm) (cY (cY m2 sb.extBut D.l2z) s2.extBut D.l2i1) ey λh3 it3 s3=>AH (AH (AH ?_)))
 show wpAny _ _ (newTuple [x,y] >>= _) _ _ _
 refine AA (FD ?_)
 have sz:h3.objs.size=s.heap.objs.size:=by rw[s3.1,s2.1,sb.1]
 refine AH ⟨_,rfl,?_⟩
 have up:∀c o,h3.get? c=some o->(h3.push {cls:=.type "tuple",data:=.seq #[x,y]}).get? c=some o:=λc o e=>AE _ e
 show Q (.ref h3.objs.size) _
 have T8:BP (h3.push {cls:=.type "tuple",data:=.seq #[x,y]}) h3.objs.size x y:=AO _ rfl
 have a3:h3.IsTupleIter i1 l1 (k+1):=bh LC s3.extBut D.i12
 rw[sz] at T8 ⊢
 exact q _ (up _ _ (s3.extBut _ _ D.i2z.symm (s2.extBut _ _ D.i1z.symm z0))) (up _ _ (s3.extBut _ _ D.TOi2 (s2.extBut _ _ D.TOi1 (sb.extBut _ _ D.TOz gO)))) (let ⟨o,ho,r⟩:=a3;⟨o,up _ _ ho,r⟩) (let ⟨o,ho,r⟩:=it3;⟨o,up _ _ ho,r⟩) T8 (by rw[Ay,sz]) λc o c1 c2 c3 c4 e=>up _ _ (s3.extBut _ _ c4 (s2.extBut _ _ c3 (sb.extBut _ _ c1 e)))
theorem JY{z TI TO i1 i2 l1 l2 p:Addr}{k:Nat}{fl:Bool}{op:Obj}{xs ys:Array Value}{a b:Value}{Q:Fin->AI->Prop}(hh:A.handled=none)(D:DI z TI TO i1 i2 l1 l2)(gz:cO s.heap z TI TO (Aq p) fl)(gp:s.heap.get? p=some op)(gI:BP s.heap TI (.ref i1) (.ref i2))
  (g1:s.heap.IsTupleIter i1 l1 k) (m1:s.heap.IsTuple l1 xs) (ex:xs[k]? =none)
  (q:∀h' e,(∀c o,c≠z->c≠TO->c≠i1->c≠i2->s.heap.get? c=some o->h'.get? c=some o)->(∃o,h'.get? e=some o/\o.cls=.type "StopIteration")->E (.ref e) {s with heap:=h'}):
  wpAny (model prog w) A (Builtin.«zip.__next__» ⟨[.ref z],[]⟩) Q E s:=by
 show wpAny _ _ (field (.ref z) 2 >>= _) _ _ _;refine AA (BA gz rfl (x:=.bool false) rfl ?_)
 show wpAny _ _ (field (.ref z) 3 >>= _) _ _ _;refine AA (BA gz rfl (x:=.ref TI) rfl ?_);refine AA (BU gI rfl ?_)
 show wpAny _ _ (Ah (.ref z) >>= _) _ _ _
 refine AA (Bi (yb gz gp) (λr s' h=>?_) λ_ _ h=>h)
 obtain⟨rfl,h0,rfl,z0,sb⟩:=h
 simp only[CY,if_false,List.forIn_toArray,CL,C5]
 refine AA (AA (AA (Bb ?_)))
 show wpAny _ _ (A2 (.ref i1) >>= _) _ _ _
 exact AA (lK hh (bh g1 sb.extBut D.i1z) (cY m1 sb.extBut D.l1z) ex λh2 e s2 he=>q h2 e (λc o c1 _ c3 _ x=>s2 _ _ c3 (sb.extBut _ _ c1 x)) he)
theorem LH{z TI TO i1 i2 l1 l2:Addr}{k:Nat}{f0:Value}{fl:Bool}{xs ys:Array Value}{x y a b:Value}{Q:Option Value->AI->Prop}(D:DI z TI TO i1 i2 l1 l2)(gz:cO s.heap z TI TO f0 fl)(hf:f0=.none∨∃p:Nat,f0=Aq p)(gI:BP s.heap TI (.ref i1) (.ref i2))(gO:BP s.heap TO a b)
  (g1:s.heap.IsTupleIter i1 l1 k) (g2:s.heap.IsTupleIter i2 l2 k) (m1:s.heap.IsTuple l1 xs) (m2:s.heap.IsTuple l2 ys) (ex:xs[k]? =some x) (ey:ys[k]? =some y)
  (q:∀h' f0' T3 a' b',cO h' z TI TO f0' T3->(∃p:Nat,f0'=Aq p)->(f0=.none->f0'=Aq s.heap.objs.size/\T3=false)->BP h' TO a' b'->h'.IsTupleIter i1 l1 (k+1)->h'.IsTupleIter i2 l2 (k+1)->BP h' s.heap.objs.size x y->h'.objs.size=s.heap.objs.size+1->
   (∀c o,c≠z->c≠TO->c≠i1->c≠i2->s.heap.get? c=some o->h'.get? c=some o)->Q (some (.ref s.heap.objs.size)) {s with heap:=h'}):wpAny (model prog w) A (Ce (.ref z)) Q E s:=by
 have ty:s.TypeIs (.ref z) "zip":=⟨_,gz,rfl⟩
 unfold Ce
 refine AA (Ct (BE (name:=By "__next__") ty Bj (BJ Bj ty DA ?_ (C6 _))))
 rcases hf with rfl | ⟨p,rfl⟩
 ·exact vt D gz (yd gz) gI gO g1 g2 m1 m2 ex ey λh' a1 a2 a3 a4 a5 a6 a7=>AH (q h' _ _ _ _ a1 ⟨_,rfl⟩ (λ_=>⟨rfl,rfl⟩) a2 a3 a4 a5 a6 a7)
 ·cases gp:s.heap.get? p with
  | none=>exact vt D gz (yc gz gp) gI gO g1 g2 m1 m2 ex ey λh' a1 a2 a3 a4 a5 a6 a7=>AH (q h' _ _ _ _ a1 ⟨_,rfl⟩ (λz=>nomatch z) a2 a3 a4 a5 a6 a7)
  | some op=>exact LG D gz gp gI gO g1 g2 m1 m2 ex ey λh' a1 a2 a3 a4 a5 a6 a7=>AH (q h' _ _ _ _ a1 ⟨_,rfl⟩ (λz=>nomatch z) a2 a3 a4 a5 a6 a7)
theorem JZ{z TI TO i1 i2 l1 l2:Addr}{k:Nat}{f0:Value}{fl:Bool}{xs ys:Array Value}{a b:Value}{Q:Option Value->AI->Prop}(hh:A.handled=none)(D:DI z TI TO i1 i2 l1 l2)(gz:cO s.heap z TI TO f0 fl)(hf:f0=.none∨∃p:Nat,f0=Aq p)(gI:BP s.heap TI (.ref i1) (.ref i2))(gO:BP s.heap TO a b)
  (g1:s.heap.IsTupleIter i1 l1 k) (g2:s.heap.IsTupleIter i2 l2 k) (m1:s.heap.IsTuple l1 xs) (m2:s.heap.IsTuple l2 ys) (ex:xs[k]? =none)
  (q:∀h',(∀c o,c≠z->c≠TO->c≠i1->c≠i2->s.heap.get? c=some o->h'.get? c=some o)->Q none {s with heap:=h'}):wpAny (model prog w) A (Ce (.ref z)) Q E s:=by
 have ty:s.TypeIs (.ref z) "zip":=⟨_,gz,rfl⟩
 unfold Ce
 refine AA (Ct (BE (name:=By "__next__") ty Bj (BJ Bj ty DA ?_ (C6 _))))
 rcases hf with rfl | ⟨p,rfl⟩
 ·exact sf hh D gz (yd gz) gI gO g1 g2 m1 m2 ex λh' e hk he=>(by
   obtain⟨o,ho,hc⟩:=he
   exact AA (CQ (T:="StopIteration") (b:=true) ⟨o,ho,hc⟩ EJ (AH (q _ hk))))
 ·cases gp:s.heap.get? p with
  | none=>exact sf hh D gz (yc gz gp) gI gO g1 g2 m1 m2 ex λh' e hk he=>(by
    obtain⟨o,ho,hc⟩:=he
    exact AA (CQ (T:="StopIteration") (b:=true) ⟨o,ho,hc⟩ EJ (AH (q _ hk))))
  | some op=>exact JY (ys:=ys) (a:=a) (b:=b) hh D gz gp gI g1 m1 ex λh' e hk he=>(by
    obtain⟨o,ho,hc⟩:=he
    exact AA (CQ (T:="StopIteration") (b:=true) ⟨o,ho,hc⟩ EJ (AH (q _ hk))))
abbrev LI (h:Heap)(l1 l2:Addr):Heap:=(h.push (oR l1)).push (oR l2)
abbrev PH (h:Heap)(l1 l2:Addr):Heap:=(LI h l1 l2).push {cls:=.type "tuple",data:=.seq #[.ref h.objs.size,.ref (h.push (oR l1)).objs.size]}
abbrev LJ (h:Heap)(l1 l2:Addr):Heap:=(PH h l1 l2).push {cls:=.type "tuple",data:=.seq #[.none,.none]}
abbrev vw (h:Heap)(l1 l2:Addr):Heap:=(LJ h l1 l2).push {cls:=.type "zip",data:=.fields #[.none,.bool false,.bool false,.ref (LI h l1 l2).objs.size,.ref (PH h l1 l2).objs.size]}
theorem J_(l1 l2:Addr)(xs ys:Array Value):Meets (Builtin.«zip.__new__» ⟨[.type "zip",.ref l1,.ref l2],[]⟩) (λ_ R s=>s.heap.IsTuple l1 xs/\s.heap.IsTuple l2 ys/\R (.ok (.ret (.ref (LJ s.heap l1 l2).objs.size))) {s with heap:=vw s.heap l1 l2}):=
 .of_wp λprog w A R s h=>by
  obtain⟨hp,g,d,tk,os⟩:=s;obtain⟨m1,m2,h⟩:=h
  have hsub:=PySem.sub_zip
  have L1:HZ (Gr ⟨hp,g,d,tk,os⟩) l1 xs:=m1
  have L2:HZ (Gr ⟨hp.push (oR l1),g,d,tk,os⟩) l2 ys:=let ⟨o,ho,r⟩:=m2;⟨o,AE _ ho,r⟩
  wp_walk using C8 L1,C8 L2
  exact⟨_,rfl,h⟩
theorem LK{l1 l2:Addr}{xs ys:Array Value}{Q:Value->AI->Prop}(m1:s.heap.IsTuple l1 xs)(m2:s.heap.IsTuple l2 ys)
  (q:∀h',IsZip h' (s.heap.objs.size+4) (s.heap.objs.size+2) (s.heap.objs.size+3) .none->BP h' (s.heap.objs.size+2) (.ref s.heap.objs.size) (.ref (s.heap.objs.size+1))->
   BP h' (s.heap.objs.size+3) .none .none->h'.IsTupleIter s.heap.objs.size l1 0->h'.IsTupleIter (s.heap.objs.size+1) l2 0->
   (∀c o,s.heap.get? c=some o->h'.get? c=some o)->Q (.ref (s.heap.objs.size+4)) {s with heap:=h'}):wpAny (model prog w) A (call (.type "zip") [.ref l1,.ref l2]) Q E s:=by
 refine callType_new HI (by decide) (F_ _ _) (GR _ _) (λobj=>FE obj _ _) GS (J_ l1 l2 xs ys) ⟨m1,m2,?_⟩
 have e1:(s.heap.push (oR l1)).objs.size=s.heap.objs.size+1:=Ay ..
 have e2:(LI s.heap l1 l2).objs.size=s.heap.objs.size+2:=by rw[Ay,e1]
 have e3:(PH s.heap l1 l2).objs.size=s.heap.objs.size+3:=by rw[Ay,e2]
 have e4:(LJ s.heap l1 l2).objs.size=s.heap.objs.size+4:=by rw[Ay,e3]
 have p5:(vw s.heap l1 l2).get? (LJ s.heap l1 l2).objs.size=some _:=AO _ rfl
 have up:∀{c:Addr} {o:Obj},(LJ s.heap l1 l2).get? c=some o->(vw s.heap l1 l2).get? c=some o:=λx=>AE _ x
 have p4:(vw s.heap l1 l2).get? (PH s.heap l1 l2).objs.size=some _:=up (AO _ rfl)
 have p3:(vw s.heap l1 l2).get? (LI s.heap l1 l2).objs.size=some _:=up (AE _ (AO _ rfl))
 have ye:∀{c:Addr} {o:Obj},(LI s.heap l1 l2).get? c=some o->(vw s.heap l1 l2).get? c=some o:=λx=>up (AE _ (AE _ x))
 have p2:(vw s.heap l1 l2).get? (s.heap.push (oR l1)).objs.size=some _:=ye (AO _ rfl)
 have p1:(vw s.heap l1 l2).get? s.heap.objs.size=some _:=ye (AE _ (AO _ rfl))
 show _/\_
 rw[e2,e3,e4] at p5
 rw[e1,e2] at p3
 rw[e3] at p4
 rw[e1] at p2
 rw[e4]
 exact⟨⟨_,p5,rfl⟩,q _ p5 p3 p4 ⟨_,p1,rfl,rfl⟩ ⟨_,p2,rfl,rfl⟩ λc o x=>ye (AE _ (AE _ x))⟩
end
def N4(K:AD)(a b:Addr):It:=
 ⟨λi H=>∃xs ys x y,aZ K H a xs/\aZ K H b ys/\xs[i]? =some x/\ys[i]? =some y,
  λi H v H'=>∃x y p,(∀xs,aZ K H a xs->xs[i]? =some x)/\(∀ys,aZ K H b ys->ys[i]? =some y)/\H p=none/\v=.ref p/\H'=upd H p (.tup [x,y]),
  λi H=>∃xs ys,aZ K H a xs/\aZ K H b ys/\xs.length<=i⟩
theorem LL{P:Ak}{w:World}{K:AD}{elts:List Expr}{x1}{tpos:Pos}(a b z TI TO i1 i2:Addr)(D:DI z TI TO i1 i2 a b):
  Turn P w K (.Tuple elts x1 tpos) (N4 K a b) [z,TO,i1,i2,TI] z (λi h=>IsZip h z TI TO .none/\BP h TI (.ref i1) (.ref i2)/\(∃x y,BP h TO x y)/\h.IsTupleIter i1 a i/\h.IsTupleIter i2 b i) where
 mem:=by simp
 obj:=λi h st c hc=>by
  obtain⟨hz,hTI,⟨x,y,hTO⟩,h1,h2⟩:=st
  have hc':c=z∨c=TO∨c=i1∨c=i2∨c=TI:=by simpa using hc
  rcases hc' with q | q | q | q | q
  ·subst q;exact⟨_,hz,λv e=>nomatch e⟩
  ·subst q;exact⟨_,hTO,λv e=>nomatch e⟩
  ·subst q
   obtain⟨o,e,_,d⟩:=h1
   exact⟨o,e,λv q=>by rw[d] at q;cases q⟩
  ·subst q
   obtain⟨o,e,_,d⟩:=h2
   exact⟨o,e,λv q=>by rw[d] at q;cases q⟩
  ·subst q;exact⟨_,hTI,λv e=>nomatch e⟩
 keep:=λi h h' st k=>by
  obtain⟨hz,hTI,⟨x,y,hTO⟩,h1,h2⟩:=st
  exact⟨k z (by simp) _ hz,k TI (by simp) _ hTI,⟨x,y,k TO (by simp) _ hTO⟩,let ⟨o,ho,r⟩:=h1;⟨o,k i1 (by simp) o ho,r⟩,let ⟨o,ho,r⟩:=h2;⟨o,k i2 (by simp) o ho,r⟩⟩
 item:=by
  intro X hP hw hK hc i pins s σ H E I hf st hg
  subst hP hw hK
  obtain⟨hz,hTI,⟨u1,u2,hTO⟩,h1,h2⟩:=st
  obtain⟨xs,ys,x,y,hq,hq2,hx,hy⟩:=hg
  obtain⟨its,rv,p,_⟩:=I.tuple hq
  obtain⟨its2,jF,p2,_⟩:=I.tuple hq2
  obtain⟨u,hu,ru⟩:=rv.get hx
  obtain⟨v,hv,rv'⟩:=jF.get hy
  refine LH D hz (.inl rfl) hTI hTO h1 h2 (show s.heap.IsTuple a its.toArray from p) (show s.heap.IsTuple b its2.toArray from p2) (x:=u) (y:=v) (by simpa using hu) (by simpa using hv) λh1' f0' T3 a' b' a1 _ aw a2 a3 a4 a5 a6 kk=>?_
  obtain⟨rfl,rfl⟩:=aw rfl
  have nn:H s.heap.objs.size=none:=I.hok.fresh (AM _)
  have oP:∀c∈[z,TO,i1,i2],fK X pins H c:=λc hc=>hf c (by
   have hc':c=z∨c=TO∨c=i1∨c=i2:=by simpa using hc
   rcases hc' with q | q | q | q<;>simp[q])
  have I1:Inv X pins σ (upd H s.heap.objs.size (.tup [x,y])) {s with heap:=h1',toks:=s.toks}:=
   I.mW (ch:=[z,TO,i1,i2]) oP (λc o hc q=>kk c o (λe=>hc (by simp[e])) (λe=>hc (by simp[e])) (λe=>hc (by simp[e])) (λe=>hc (by simp[e])) q) (AM _)
    ⟨⟨by show 2<=sizeLine;decide,_,a5,rfl⟩,[u,v],.cons ru (.cons rv' .nil),⟨_,a5,rfl,_,rfl⟩⟩
  have lz:z<s.heap.objs.size:=AN hz
  have Lg:TI<s.heap.objs.size:=AN hTI
  have Lh:TO<s.heap.objs.size:=AN hTO
  have l1:i1<s.heap.objs.size:=by obtain⟨o,q,_⟩:=id h1;exact AN q
  have l2:i2<s.heap.objs.size:=by obtain⟨o,q,_⟩:=id h2;exact AN q
  refine⟨_,rfl,Df a1 λh2' e2 sb=>?_⟩
  obtain⟨f0,f1,f2,f3,f4,f5⟩:=hf z (by simp)
  have I2:=I1.turned (h':=h2') (t':=s.toks) (it:=z) (λc o hc q=>(sb.2 c hc).trans q) (by rw[ao (Ae lz)];exact f0) f1 f3 f4 f5
  refine⟨.ref s.heap.objs.size,_,I2,rfl,⟨x,y,s.heap.objs.size,λzs hy=>by rw[I.jc hy hq];exact hx,λzs hz'=>by rw[I.jc hz' hq2];exact hy,nn,rfl,rfl⟩,
   ⟨e2,(sb.2 TI D.TIz).trans (kk _ _ D.TIz D.TITO D.TIi1 D.TIi2 hTI),⟨_,_,(sb.2 TO D.TOz).trans a2⟩,let ⟨o,ho,r⟩:=a3;⟨o,(sb.2 i1 D.i1z).trans ho,r⟩,let ⟨o,ho,r⟩:=a4;⟨o,(sb.2 i2 D.i2z).trans ho,r⟩⟩,λc hc=>?_⟩
  have hlt:c<s.heap.objs.size:=by
   have hc':c=z∨c=TO∨c=i1∨c=i2∨c=TI:=by simpa using hc
   rcases hc' with q | q | q | q | q
   ·rw[q];exact lz
   ·rw[q];exact Lh
   ·rw[q];exact l1
   ·rw[q];exact l2
   ·rw[q];exact Lg
  rw[ao (Ae hlt)]
  exact(hf c hc).1
 done:=by
  intro X hP hw hK hc i pins s σ H E I hf st hg
  subst hP hw hK
  obtain⟨hz,hTI,⟨u1,u2,hTO⟩,h1,h2⟩:=st
  obtain⟨xs,ys,hq,hq2,hx⟩:=hg
  obtain⟨its,rv,p,_⟩:=I.tuple hq
  obtain⟨its2,jF,p2,_⟩:=I.tuple hq2
  have hl:=rv.length
  have oP:∀c∈[z,TO,i1,i2],fK X pins H c:=λc hc=>hf c (by
   have hc':c=z∨c=TO∨c=i1∨c=i2:=by simpa using hc
   rcases hc' with q | q | q | q<;>simp[q])
  exact JZ (I.ok.hd hc) D hz (.inl rfl) hTI hTO h1 h2 (show s.heap.IsTuple a its.toArray from p) (show s.heap.IsTuple b its2.toArray from p2) (by simp;omega) λh' kk=>
   ⟨rfl,I.tZ (t':=s.toks) (ch:=[z,TO,i1,i2]) oP (λc o hc q=>kk c o (λe=>hc (by simp[e])) (λe=>hc (by simp[e])) (λe=>hc (by simp[e])) (λe=>hc (by simp[e])) q)⟩
 self:=λ_ _ _ _ _ st h=>Cz st.1 h
def PJ(K:AD)(ta:TA):TI:=λσ H R=>ta σ H λvs H1=>∃a b,vs=[.ref a,.ref b]/\(∃xs,aZ K H1 a xs)/\(∃ys,aZ K H1 b ys)/\R (N4 K a b) H1
theorem Rq{X:Cx}{elts:List Expr}{x1}{tpos:Pos}{a b:Expr}{ta:TA}{p pos:Pos}(hg:Gl X "zip")(hm:X.mg "zip"=none)(ha:PA X [a,b] ta)
  (hs:BC [a,b] X.env=[(false,eval a X.env),(false,eval b X.env)]:=by rfl) (hs2:BC [b] X.env=[(false,eval b X.env)]:=by rfl):
  PI X (.Tuple elts x1 tpos) (.Call (.Name "zip" p) [a,b] [] pos) (PJ X.K ta):=by
 intro pins s σ H R I h
 refine Call_ (gy I hg hm boot_zip (BO (aM (ha pos pins s σ H _ I h) λus s1 ⟨vs,H1,I1,r1,q1⟩=>?_) (by rw[hs,hs2]) (by rw[hs2];rfl)))
 obtain⟨l1,l2,e,⟨xs,hq⟩,⟨ys,hq2⟩,q⟩:=q1
 subst e
 cases r1 with
 | cons r rr=>
  cases rr with
  | cons r' rr=>
   cases rr
   cases r
   cases r'
   obtain⟨its,rv,pl,_⟩:=I1.tuple hq
   obtain⟨its2,jF,vg,_⟩:=I1.tuple hq2
   have a1:l1<s1.heap.objs.size:=by obtain⟨_,e,_⟩:=(show s1.heap.IsTuple l1 its.toArray from pl);exact AN e
   have a2:l2<s1.heap.objs.size:=by obtain⟨_,e,_⟩:=(show s1.heap.IsTuple l2 its2.toArray from vg);exact AN e
   refine LK (show s1.heap.IsTuple l1 its.toArray from pl) (show s1.heap.IsTuple l2 its2.toArray from vg) λh' hz hTI hTO hi1 hi2 kk=>?_
   have I2:Inv X pins σ H1 {s1 with heap:=h'}:=I1.kept (t':=s1.toks) kk
   refine Cz hz ?_
   refine⟨s1.heap.objs.size+4,[s1.heap.objs.size+4,s1.heap.objs.size+3,s1.heap.objs.size,s1.heap.objs.size+1,s1.heap.objs.size+2],_,_,H1,rfl,I2,LL l1 l2 _ _ _ _ _ (zipApart_new a1 a2),⟨hz,hTI,⟨_,_,hTO⟩,hi1,hi2⟩,λc hc=>?_,q⟩
   have hle:s1.heap.objs.size<=c:=by
    have hc':c=s1.heap.objs.size+4∨c=s1.heap.objs.size+3∨c=s1.heap.objs.size∨c=s1.heap.objs.size+1∨c=s1.heap.objs.size+2:=by simpa using hc
    rcases hc' with q | q | q | q | q<;>(rw[q];first | exact EV _ _ | exact AM _)
   exact I1.jZ hle (I1.hok.fresh hle)
theorem LN{K:AD}{a b:Addr}{xs ys:List V}{g:TG}{tt:TT}{te:TE}{D:Addr}{σ:St}{H:Hp}{R:Hp->Prop}(Pv:Nat->St->Hp->Prop)(hlen:xs.length=ys.length)(h0:Pv 0 σ H)(hl:∀i σ H,i<=xs.length->Pv i σ H->aZ K H a xs/\aZ K H b ys)
  (hs:∀i x y p σ H,xs[i]? =some x->ys[i]? =some y->Pv i σ H->H p=none->g (.ref p) σ (upd H p (.tup [x,y])) λσ2 H2=>tt σ2 H2 λb H3=>if b=true then te σ2 H3 λy H4=>∃ys,H4 D=some (.lst ys)/\ys.length<sizeLine/\Pv (i+1) σ2 (upd H4 D (.lst (ys++[y]))) else Pv (i+1) σ2 H3)
  (hd:∀σ H,Pv xs.length σ H->R H):kK (N4 K a b) g tt te D σ H R:=by
 refine⟨λi m σ H=>m=xs.length-i/\i<=xs.length/\Pv i σ H,⟨xs.length,by simp,BG _,h0⟩,?_⟩
 rintro i m σ H ⟨rfl,hi,p⟩
 obtain⟨q1,q2⟩:=hl i σ H hi p
 by_cases hlt:i<xs.length
 ·refine .inr ⟨⟨xs,ys,xs[i],ys[i]'(by omega),q1,q2,by simp[hlt],by simp[hlen▸hlt]⟩,Pv (i+1),λσ' H' p'=>⟨xs.length-(i+1),by omega,rfl,hlt,p'⟩,λv H' y=>?_⟩
  obtain⟨x,y,p',e1,e2,e3,rfl,rfl⟩:=y
  exact hs i x y p' σ H (e1 xs q1) (e2 ys q2) p e3
 ·have e:i=xs.length:=by omega
  subst e
  exact .inl ⟨⟨xs,ys,q1,q2,AM _⟩,hd σ H p⟩
theorem aN{t u:TS}{D:Ends}{σ:St}{H:Hp}(h:∀R:St->Hp->Prop,R=u D->t {D with nx:=R} σ H):lJ t u D σ H:=h _ rfl
theorem ji{t u:TS}{D:Ends}{σ:St}{H:Hp}(Pv:St->Hp->Prop)(h1:∀σ H,Pv σ H->u D σ H)(h2:∀R:St->Hp->Prop,(∀σ H,Pv σ H->R σ H)->t {D with nx:=R} σ H):lJ t u D σ H:=h2 _ h1
def PK(J:It)(g:TG)(tb:TS)(D:Ends)(σ:St)(H:Hp):Prop:=∃W:Nat->Nat->St->Hp->Prop,(∃m,W 0 m σ H)/\∀i m σ H,W i m σ H->
 (J.stop i H/\D.nx σ H)∨(J.go i H/\∃N:St->Hp->Prop,(∀σ' H',N σ' H'->∃m',m'<m/\W (i+1) m' σ' H')/\∀x H',J.rE i H x H'->g x σ H' λσ2 H2=>tb {D with nx:=N,ct:=N,bk:=D.nx} σ2 H2)
theorem N5{K:AD}{a:Addr}{xs:List V}{g:TG}{tb:TS}{D:Ends}{σ:St}{H:Hp}(Pv:Nat->St->Hp->Prop)(h0:Pv 0 σ H)(hl:∀i σ H,i<=xs.length->Pv i σ H->aZ K H a xs)
  (hs:∀i x σ H (N:St->Hp->Prop),(∀σ H,Pv (i+1) σ H->N σ H)->xs[i]? =some x->Pv i σ H->g x σ H λσ2 H2=>tb {D with nx:=N,ct:=N,bk:=D.nx} σ2 H2) (hd:∀σ H,Pv xs.length σ H->D.nx σ H):PK (xy K a) g tb D σ H:=
 Ih Pv h0 hl (λi x σ H e p=>hs i x σ H _ (λ_ _ z=>z) e p) hd
theorem m9{lo:Int}{n:Nat}{g:TG}{tb:TS}{D:Ends}{σ:St}{H:Hp}(Pv:Nat->St->Hp->Prop)(h0:Pv 0 σ H)
  (hs:∀i σ H (N:St->Hp->Prop),(∀σ H,Pv (i+1) σ H->N σ H)->i<n->Pv i σ H->g (.int (lo+i)) σ H λσ2 H2=>tb {D with nx:=N,ct:=N,bk:=D.nx} σ2 H2) (hd:∀σ H,Pv n σ H->D.nx σ H):PK (uR lo n) g tb D σ H:=
 kH (lo:=lo) Pv h0 (λi σ H e p=>hs i σ H _ (λ_ _ z=>z) e p) hd
theorem p7{c:TT}{tb:TS}{D:Ends}{σ:St}{H:Hp}(W:Nat->St->Hp->Prop)(h0:∃m,W m σ H)
  (hs:∀m σ H (N:St->Hp->Prop),(∀σ' H' m',m'<m->W m' σ' H'->N σ' H')->W m σ H->c σ H λb H1=>if b=true then tb {D with nx:=N,ct:=N,bk:=D.nx} σ H1 else D.nx σ H1)
  (mono:∀σ H Q Q',(∀b H1,Q b H1->Q' b H1)->c σ H Q->c σ H Q'):lT c tb D σ H:=TV W h0 (λm σ H w=>hs m σ H _ (λ_ _ m' h w'=>⟨m',h,w'⟩) w) mono
section
variable{X:Cx}{pins:List (Addr×Obj)}{σ:St}{H:Hp}{s:AI}
theorem N6(I:Inv X pins σ H s){T:Addr}{ps:Array Value}{L:List (Pos×Str)}{q:Pos×Str}(hT:H T=some (.gw ps))(ht:G0 ps.toList)(htab:∀p∈L,C1 p.1 ps.toList=none∨∃c,C1 p.1 ps.toList=some (.ref c)/\H c=some (kS c p.2))(hL:q∈L)(ap:Apart L)
  {c':Addr} {h':Heap} {tk:Tok} (o:Obj) (ho:o.isFreed=false) (hx:D9 T s.heap h') (hge:s.heap.objs.size<=c') (hlt:c'<h'.objs.size) (hrec:h'.CodeRec (.ref c') q.2) (htb:h'.get? T=some (Ba (ps++ #[Aq q.1.line,Aq q.1.col,.ref c']))):
  ∃H',Inv X pins σ H' {s with heap:=h'.push o,toks:=tk}/\H h'.objs.size=none/\H' h'.objs.size=some (kQ h'.objs.size o)/\H' c'=some (kS c' q.2)/\Tab H' T L/\KB T H H':=by
 have nc:H c'=none:=I.hok.fresh hge
 have Lw:s.heap.objs.size<=h'.objs.size:=Bx (A7 hge hlt)
 have nf:H h'.objs.size=none:=I.hok.fresh Lw
 have fc:h'.objs.size≠c':=Bo hlt
 have Tc:T≠c':=ak hT nc
 have Tf:T≠h'.objs.size:=ak hT nf
 have keep:∀b u,b≠T->s.heap.get? b=some u->(h'.push o).get? b=some u:=λb u hb e=>AE _ (hx b u hb e)
 obtain⟨H',hH⟩:∃H':Hp,H'=upd (upd (upd H T (.gw (ps++ #[Aq q.1.line,Aq q.1.col,.ref c']))) c' (kS c' q.2)) h'.objs.size (kQ h'.objs.size o):=⟨_,rfl⟩
 have eT:H' T=some (.gw (ps++ #[Aq q.1.line,Aq q.1.col,.ref c'])):=by rw[hH,ao Tf,ao Tc,af]
 have ec:H' c'=some (kS c' q.2):=by rw[hH,ao fc.symm,af]
 have ef:H' h'.objs.size=some (kQ h'.objs.size o):=by rw[hH,af]
 have eo:∀b,b≠T->b≠c'->b≠h'.objs.size->H' b=H b:=λb h1 h2 h3=>by rw[hH,ao h3,ao h2,ao h1]
 have kb:KB T H H':=λb u e hb=>by rw[eo b hb (ak e nc) (ak e nf)];exact e
 have hnew:∀b u,s.heap.get? b=some u->b≠c'/\b≠h'.objs.size:=λb u e=>⟨Ae (AY (AN e) hge),Ae (AY (AN e) Lw)⟩
 have N7:=Tab.grown (H:=H) (H':=H') hL ap ht htab eT ec λb φ e=>kb b _ e λz=>by rw[z,hT] at e;cases e
 have hok':cV X.prog X.w H' (h'.push o):=λb u e=>by
  by_cases b1:b=T
  ·subst b1
   rw[eT] at e;cases e
   exact AE _ htb
  by_cases b2:b=c'
  ·subst b2
   rw[ec] at e;cases e
   exact Lu (hrec.push _)
  by_cases b3:b=h'.objs.size
  ·subst b3
   rw[ef] at e;cases e
   exact rX (AO _ ho)
  rw[eo b b1 b2 b3] at e
  refine(I.hok b u e).stay (λd v hd z=>keep d v ?_ z) (λd z=>kb d _ z ?_) λd xs z=>kb d _ z ?_
  ·rintro rfl
   rcases hd with z' | z'
   ·exact b1 z'.symm
   ·rw[hT] at z';cases z'
  ·rintro rfl;rw[hT] at z;cases z
  ·rintro rfl;rw[hT] at z;cases z
 have neT:∀b,H b=none->b≠T:=λb n z=>by rw[z,hT] at n;cases n
 refine⟨H',I.un ⟨λb u e n _ _=>keep b u (neT b n) e,λb u e n _ _=>⟨u.slots,keep b u (neT b n) e⟩,λb u e n _=>by rw[eo b (neT b n) (hnew b u e).1 (hnew b u e).2];exact n,λb u e _=>?_,λb xs e=>kb b _ e λz=>?_,λb u v e=>kb b _ e λz=>?_,λb qs e=>?_⟩ hok',nf,ef,ec,N7,kb⟩
 ·by_cases hb:b=T
  ·subst hb;exact⟨_,AE _ htb⟩
  ·exact⟨u,keep b u hb e⟩
 ·rw[z,hT] at e;cases e
 ·rw[z,hT] at e;cases e
 ·by_cases hb:b=T
  ·subst hb
   rw[hT] at e;cases e
   exact⟨_,eT⟩
  ·exact⟨#[],by rw[kb b _ e hb];simp⟩
end
section
variable{X:Cx}{pos:Pos}{name:Str}{params:CP}{body:List Stmt}{scope:Scope}{c T:Addr}{clos:List (Str×Addr)}{L:List (Pos×Str)}
abbrev qO (X:Cx)(name:Str)(params:CP)(body:List Stmt)(scope:Scope)(clos:List (Str×Addr))(doc:Value)(c':Addr)(ctv:Value):Obj:=PySem.W.fnMade name (DX X.env name name) params body scope clos doc ((X.mg "__name__").getD .none) c' ctv
def T4(X:Cx)(name:Str)(params:CP)(body:List Stmt)(scope:Scope)(clos:List (Str×Addr))(T:Addr)(L:List (Pos×Str))(i:Nat):TS:=λD σ H=>
 Tab H T L/\∀f c' ctv doc H',H f=none->H' f=some (kQ f (qO X name params body scope clos doc c' ctv))->H' c'=some (kS c' (DX X.env name name))->Tab H' T L->KB T H H'->D.nx (σ.set i (some (.ref f))) H'
theorem T5{i:Nat}(hN:X.N.Nodup)(hi:X.N[i]? =some name)(hx:Loc X.env.scope name)(hcode:X.env.code=.ref c)(C:DV X.base c T)(hB:fq X.mg X.base)(hcl:E7 scope X.env=pure clos)(hd0:params.defaults=[])(hk0:params.kw_defaults=[])(ha:annTrees params none X.env=[])
  (hL:(pos,DX X.env name name)∈L) (ap:Apart L) (hf:X.fn name=true∨X.env.scope.names.lookup name=some .local:=by first | exact .inl rfl | exact .inr rfl | assumption):
  PS X (.FunctionDef name params body [] none [] scope none name pos) (T4 X name params body scope clos T L i):=by
 intro pins s σ H D I ⟨⟨ps,hT,ht,htab⟩,h⟩
 refine PySem.W.nestDef_K hd0 hk0 ha ?_
 have rY:s.heap.get? T=some (Ba ps):=I.hok T _ hT
 have hg:s.heap.Ns AU X.mg:=I.ok.mod.glob.keeps I.bk
 have TJ:AU≠T:=λq=>by
  obtain⟨o,es,ep,e,hd,_⟩:=hg
  rw[q,rY] at e;cases e;cases hd
 have xZ:s.heap.BuiltinsAt X.mg T:=by
  obtain⟨bm,o,h1,h2,h3,h4,h5,h6⟩:=hB
  refine⟨bm,o,h1,h2,λq=>?_,λq=>?_,I.bk _ _ h3,h4,h5,h6⟩
  ·obtain⟨o',es,ep,e,hd,_⟩:=I.ok.mod.glob
   rw[q,e] at h3;cases h3;rw[hd] at h6;cases h6
  ·have:=I.bk _ _ h3
   rw[q,rY] at this;cases this;cases h4
 have Lv:=C.keeps I.bk
 rcases htab _ hL with hn | ⟨c',hc',TK⟩
 ·refine PySem.W.makeFunction_K (mg:=X.mg) hcl I.ok.glob hg hcode Lv rY ht hn TJ xZ λc' ctv doc h' tk hx' hge hlt hrec htb=>?_
  obtain⟨H',I',nf,ef,ec,N7,kb⟩:=N6 (tk:=tk) I hT ht htab hL ap (qO X name params body scope clos doc c' ctv) rfl hx' hge hlt hrec htb
  exact mQ I' hN hi hx (v:=.ref h'.objs.size) rfl (λs' T6=>⟨_,H',T6,h _ _ _ _ _ nf ef ec N7 kb⟩) hf
 ·refine PySem.W.makeFunction_hit (mg:=X.mg) hcl I.ok.glob hg hcode Lv rY ht hc' xZ λctv doc h' tk hk hsz=>?_
  have nf:H h'.objs.size=none:=I.hok.fresh hsz
  have keep:∀b o,s.heap.get? b=some o->(h'.push (qO X name params body scope clos doc c' ctv)).get? b=some o:=λb o e=>AE _ (hk b o e)
  have kb:Same H (upd H h'.objs.size (kQ h'.objs.size (qO X name params body scope clos doc c' ctv))):=λb o e=>by rw[ao (ak e nf)];exact e
  have I':=I.laid (t':=tk) keep hsz (rX (P:=X.prog) (w:=X.w) (H:=upd H h'.objs.size (kQ h'.objs.size (qO X name params body scope clos doc c' ctv))) (AO _ rfl))
  exact mQ I' hN hi hx (v:=.ref h'.objs.size) rfl (λs' T6=>⟨_,_,T6,h _ c' ctv doc _ nf af (kb _ _ TK) (Tab.same ⟨ps,hT,ht,htab⟩ kb) λb o e _=>kb b o e⟩) hf
end
def W9(K:AD)(ta:TA):TI:=λσ H R=>Tg K ta σ H R∨PJ K ta σ H R
theorem Rt{X:Cx}{elts:List Expr}{x1}{tpos:Pos}{a b:Expr}{ta:TA}{p pos:Pos}(hg:Gl X "zip")(hm:X.mg "zip"=none)(ha:PA X [a,b] ta)
  (hs:BC [a,b] X.env=[(false,eval a X.env),(false,eval b X.env)]:=by rfl) (hs2:BC [b] X.env=[(false,eval b X.env)]:=by rfl):
  PI X (.Tuple elts x1 tpos) (.Call (.Name "zip" p) [a,b] [] pos) (W9 X.K ta):=by
 intro pins s σ H R I h
 rcases h with h | h
 ·exact Ti hg hm ha hs hs2 pins s σ H R I h
 ·exact Rq hg hm ha hs hs2 pins s σ H R I h
theorem N8{K:AD}{a b:Addr}{xs ys:List V}{g:TG}{tt:TT}{te:TE}{D:Addr}{σ:St}{H:Hp}{R:Hp->Prop}(Pv:Nat->St->Hp->Prop)(hlen:xs.length=ys.length)(h0:Pv 0 σ H)(hl:∀i σ H,i<=xs.length->Pv i σ H->bz K H a xs/\bz K H b ys)
  (hs:∀i x y p σ H,xs[i]? =some x->ys[i]? =some y->Pv i σ H->H p=none->g (.ref p) σ (upd H p (.tup [x,y])) λσ2 H2=>tt σ2 H2 λb H3=>if b=true then te σ2 H3 λy H4=>∃ys,H4 D=some (.lst ys)/\ys.length<sizeLine/\Pv (i+1) σ2 (upd H4 D (.lst (ys++[y]))) else Pv (i+1) σ2 H3)
  (hd:∀σ H,Pv xs.length σ H->R H):kK (Te K a b) g tt te D σ H R:=by
 refine⟨λi m σ H=>m=xs.length-i/\i<=xs.length/\Pv i σ H,⟨xs.length,by simp,BG _,h0⟩,?_⟩
 rintro i m σ H ⟨rfl,hi,p⟩
 obtain⟨q1,q2⟩:=hl i σ H hi p
 by_cases hlt:i<xs.length
 ·refine .inr ⟨⟨xs,ys,xs[i],ys[i]'(by omega),q1,q2,by simp[hlt],by simp[hlen▸hlt]⟩,Pv (i+1),λσ' H' p'=>⟨xs.length-(i+1),by omega,rfl,hlt,p'⟩,λv H' y=>?_⟩
  obtain⟨x,y,p',e1,e2,e3,rfl,rfl⟩:=y
  exact hs i x y p' σ H (e1 xs q1) (e2 ys q2) p e3
 ·have e:i=xs.length:=by omega
  subst e
  exact .inl ⟨⟨xs,ys,q1,q2,.inl (AM _)⟩,hd σ H p⟩
theorem hU:∀(names:List (Str×Cj)) (n:Nat) (acc:List (Str×Addr)),cellsFrom n names acc=cellsFrom n names []++acc
 | [],_,_=>rfl
 | (name,kind)::r,n,acc=>by
  unfold cellsFrom
  split
  ·rw[hU r (n+1) ((name,n)::acc),hU r (n+1) [(name,n)],DP];rfl
  ·exact hU r n acc
theorem oV:∀{names:List (Str×Cj)} {n:Nat} {acc:List (Str×Addr)} {x:Str} {c:Addr},(x,c)∈cellsFrom n names acc->(x,Ec)∈names∨(x,c)∈acc
 | [],_,_,_,_,h=>.inr h
 | (name,kind)::r,n,acc,x,c,h=>by
  unfold cellsFrom at h
  split at h
  ·rename_i hk
   rcases oV h with z | z
   ·exact .inl (AV _ z)
   ·rcases Ac.mp z with z | z
    ·cases z
     refine .inl ?_
     rw[show kind=Ec by simpa using hk]
     exact AZ
    ·exact .inr z
  ·rcases oV h with z | z
   ·exact .inl (AV _ z)
   ·exact .inr z
theorem Ru{M:Model}{A:A9}{E:Value->AI->Prop}{s:AI}{scope:Scope}{globals:Addr}{closure:List (Str×Addr)}{binds:List (Str×Value)}{qual:Str}{func:Option Addr}{code:Value}{builtins:Addr}{Q:Env->AI->Prop}
  (hl:∀x∈binds,scope.names.lookup x.1=some .local)
  (hQ:∀h',h'.Ns s.heap.objs.size (λx=>binds.reverse.lookup x)->B6 s.heap.objs.size (pushCells (s.heap.push {cls:=.type "frame",data:=.dict #[]}) scope.names) h'->
   Q (newEnv scope s.heap.objs.size globals (cellsFrom (s.heap.objs.size+1) scope.names closure) qual func code none builtins) {s with heap:=h',toks:=s.toks+binds.length})
  (hk:scope.kind=.function):wpAny M A (Gn scope globals closure binds qual func code none builtins) Q E s:=by
 simp only[Gn,Option.isSome_none,CY,if_false]
 refine AA (wpAny_alloc ?_)
 refine AA (wpAny_layCells _ (λname kind cells=>by cases hkc:kind == Ec<;>simp[hkc]) _ _ _ _ ?_)
 rw[show({s with heap:=s.heap.push {cls:=.type "frame",data:=.dict #[]}}:AI).heap.objs.size=s.heap.objs.size+1 from Ay ..]
 generalize hcs:cellsFrom (s.heap.objs.size+1) scope.names closure=cs at hQ ⊢
 refine AA ?_
 refine wpAny_forIn_list _
  (λrest _ s'=>∃done h',binds=done++rest/\s'={s with heap:=h',toks:=s.toks+done.length}/\h'.Ns s.heap.objs.size (λx=>done.reverse.lookup x)/\B6 s.heap.objs.size (pushCells (s.heap.push {cls:=.type "frame",data:=.dict #[]}) scope.names) h') _ ?_ ?_ binds _
  ⟨[],_,rfl,rfl,(Heap.Ns.new s.heap (.type "frame")).keeps (GI _ _),HY ..⟩
 ·rintro⟨name,v⟩ rest _ s' ⟨done,h',hb,rfl,hns,hsb⟩
  have hk':Env.kindOf {scope,locals:=s.heap.objs.size,globals,cells:=cs,qual,func,code,frame:=some s.heap.objs.size,builtins} name=some .local:=hl (name,v) (by rw[hb];simp)
  have hp:(({scope,locals:=s.heap.objs.size,globals,cells:=cs,qual,func,code,frame:=some s.heap.objs.size,builtins}:Env).scope.kind == .class||(({scope,locals:=s.heap.objs.size,globals,cells:=cs,qual,func,code,frame:=some s.heap.objs.size,builtins}:Env).scope.kind == .module&&
    ({scope,locals:=s.heap.objs.size,globals,cells:=cs,qual,func,code,frame:=some s.heap.objs.size,builtins}:Env).locals != ({scope,locals:=s.heap.objs.size,globals,cells:=cs,qual,func,code,frame:=some s.heap.objs.size,builtins}:Env).globals))=false:=by
   show(scope.kind == .class||(scope.kind == .module&&_))=false
   rw[hk];rfl
  simp only[storeName_local hk' hp]
  refine AA (wpAny_nsSet hns λh'' hns' hsb'=>AH ⟨done++[(name,v)],h'',by simp[hb],?_,?_,hsb.trans hsb'⟩)
  ·simp[Nat.add_assoc]
  ·rw[lookup_reverse_snoc];exact hns'
 ·rintro _ s' ⟨done,h',hb,rfl,hns,hsb⟩
  rw[BS] at hb;subst hb
  exact AH (hQ h' hns hsb)
structure oW (ps aI:List Str)(scope:Scope):Prop where
 kind:scope.kind=.function
 co:scope.isCoroutine=false
 gen:scope.isGenerator=false
 par:∀x∈ps,scope.names.lookup x=some .local
 free:∀x∈aI,scope.names.lookup x=some .free
 only:∀p∈scope.names,p.2=.free->p.1∈aI
 ZM:∀p∈scope.names,p.2=.cell->p.1 ∉ aI
 nd:(ps++aI).Nodup
def t9(scope:Scope)(x:Str):Bool:=match scope.names.lookup x with | some .cell=>true | _=>false
def LO(P:Ak)(w:World)(K:AD)(mg:Str->Option Value)(base:Heap)(N:List Str)(qual:Str)(scope:Scope)(f:Addr)(cd:Value)(cl:List (Str×Addr))(A:A9)(outer:List Env)(s:AI)(H:Hp):Cx where
 prog:=P
 w:=w
 K:=K
 mg:=mg
 base:=base
 A:=A.deeper (CN qual scope s.heap.objs.size f cd (cellsFrom (s.heap.objs.size+1) scope.names cl))
 N:=N
 s₀:=s
 H₀:=H
 env:=CN qual scope s.heap.objs.size f cd (cellsFrom (s.heap.objs.size+1) scope.names cl)
 outer:=outer
 stack:=CN qual scope s.heap.objs.size f cd (cellsFrom (s.heap.objs.size+1) scope.names cl)::outer
 ex:=[]
 calm:=true
 fn:=t9 scope
 pn:=[]
 xe:=λ_ _=>False
theorem iw{n:Nat}{names:List (Str×Cj)}{cl:List (Str×Addr)}{x:Str}{c:Addr}(h:(cellsFrom n names cl).lookup x=some c):(cellsFrom n names []).lookup x=some c∨((cellsFrom n names []).lookup x=none/\cl.lookup x=some c):=by
 rw[hU,FF] at h
 cases e:(cellsFrom n names []).lookup x with
 | none=>rw[e] at h;exact .inr ⟨rfl,h⟩
 | some d=>rw[e] at h;exact .inl h
theorem inv_def{P:Ak}{w:World}{K:AD}{mg:Str->Option Value}{base:Heap}{ps aI:List Str}(ls:List Str){qual:Str}{scope:Scope}{f:Addr}{cd:Value}{cl:List (Str×Addr)}{A:A9}{outer:List Env}{s:AI}{H:Hp}{us:List Value}{vs fvs:List V}{h1:Heap}{tk:Nat}
  (S:oW ps aI scope) (hd:A.handled=none) (e0:qA P w K mg base A outer s H) (hl:vs.length=ps.length) (r:Vals vs us) (C:iP base cl aI fvs)
  (hns:h1.Ns s.heap.objs.size λx=>(ps.zip us).reverse.lookup x) (hsb:B6 s.heap.objs.size (pushCells (s.heap.push {cls:=.type "frame",data:=.dict #[]}) scope.names) h1):
  Inv (LO P w K mg base (ps++aI++ls) qual scope f cd cl A outer s H) [] (vs.map some++fvs.map some++ls.map λ_=>none) H {s with heap:=h1,toks:=tk}:=by
 have hk:∀b o,s.heap.get? b=some o->h1.get? b=some o:=λb o e=>hsb.extBut b o (Ae (AN e)) (GI _ _ b o (AE _ e))
 have hkb:∀b o,base.get? b=some o->h1.get? b=some o:=λb o e=>hk b o (e0.bs b o e).1
 have kI:∀b:Addr,b ∉ (LO P w K mg base (ps++aI++ls) qual scope f cd cl A outer s H).ex:=λb z=>absurd (show b∈([]:List Addr) from z) (by simp)
 have lf:aI.length=fvs.length:=AX C.vals
 have ok:=cellsFrom_ok scope.names (s.heap.push {cls:=.type "frame",data:=.dict #[]}) (s.heap.objs.size+1) [] ⟨λ_ _ hm=>(nomatch hm),HN⟩ (by rw[Ay];exact AM _)
 rw[Ay] at ok
 have own:∀{x:Str} {c:Addr},(cellsFrom (s.heap.objs.size+1) scope.names []).lookup x=some c->h1.IsCell c none/\s.heap.objs.size<c:=λ{x c} e=>by
  obtain⟨i1,i2⟩:=ok.empty x c (BF e)
  exact⟨i1.sameBut hsb (Bo i2),i2⟩
 have old:∀{x:Str} {c:Addr},cl.lookup x=some c->c<s.heap.objs.size:=λ{x c} e=>by
  obtain⟨v,o,ho,_⟩:=C.cell x c e
  exact AN (e0.bs _ _ ho).1
 refine⟨⟨e0.mod,S.kind,rfl,rfl,AM _,λy z c h1' h2'=>?_,λy hy=>?_,λy c hf h=>?_,λ_=>hd,Ef e0.frames,.inr ⟨rfl,rfl⟩,λb z=>absurd z (kI b),e0.bs,e0.oE,λb _ _=>kI b,λb z=>absurd z (kI b),e0.ic,e0.uN⟩,
  rfl,e0.bare,Un.kept hk,⟨_,hns,λi y v h1' h2 h3=>?_⟩,λy c h=>?_,e0.hok.fresh (AM _),λy c h=>?_,λp hp=>absurd (show p∈([]:List (Addr×Obj)) from hp) (by simp),e0.hok.kept hk,?_⟩
 ·rcases iw h1' with a1 | ⟨_,a1⟩<;>rcases iw h2' with a2 | ⟨_,a2⟩
  ·exact name_of_addr ok.apart (BF a1) (BF a2)
  ·exact absurd (own a1).2 (Nat.not_lt.mpr (Bx (old a2)))
  ·exact absurd (own a2).2 (Nat.not_lt.mpr (Bx (old a1)))
  ·exact C.inj y z c a1 a2
 ·have hy:scope.names.lookup y=some .cell∨scope.names.lookup y=some .free:=hy
  show ∃c,(cellsFrom (s.heap.objs.size+1) scope.names cl).lookup y=some c
  rw[hU,FF]
  cases e:(cellsFrom (s.heap.objs.size+1) scope.names []).lookup y with
  | some c=>exact⟨c,rfl⟩
  | none=>
   rcases hy with hy | hy
   ·obtain⟨c,q⟩:=fP (n:=s.heap.objs.size+1) hy
    rw[e] at q;cases q
   ·have hm:=S.only _ (BF hy) rfl
    obtain⟨i,hi⟩:=BH hm
    obtain⟨v,_,c,u,hc,_⟩:=dj C.vals hi
    exact⟨c,hc⟩
 ·have hf':t9 scope y=true:=hf
  have hy:scope.names.lookup y=some .cell:=by
   unfold t9 at hf'
   split at hf'
   ·assumption
   ·cases hf'
  obtain⟨c',q⟩:=fP (n:=s.heap.objs.size+1) hy
  rcases iw (show(cellsFrom (s.heap.objs.size+1) scope.names cl).lookup y=some c from h) with a1 | ⟨a0,_⟩
  ·exact Bx (own a1).2
  ·rw[a0] at q;cases q
 ·have iu:(ps++aI++ls)[i]? =some y:=h1'
  have h2':(vs.map some++fvs.map some++ls.map λ_=>(none:Option V))[i]? =some (some v):=h2
  by_cases hi2:i<(ps++aI).length
  ·rw[An hi2] at iu
   rw[An (by rw[AG,AB,AB,hl,<-lf];rw[AG] at hi2;exact hi2)] at h2'
   by_cases hi:i<ps.length
   ·rw[An hi] at iu
    rw[An (by rw[AB];omega),AW] at h2'
    obtain⟨v',hv',e⟩:=Bh.mp h2'
    have e':v'=v:=AS e
    subst e'
    obtain⟨u,hu,rv⟩:=r.get hv'
    have Il:ps.Nodup:=(B7.mp S.nd).1
    exact⟨u,rv,.inl ⟨S.par y (AL iu),IG Il (by rw[<-hl,r.length];exact AM _) iu hu⟩⟩
   ·rw[Aj (by omega)] at iu
    rw[Aj (by rw[AB];omega),AB,hl,AW] at h2'
    obtain⟨v',hv',e⟩:=Bh.mp h2'
    have e':v'=v:=AS e
    subst e'
    obtain⟨v2,hv2,c,u,hc,⟨o,ho,hd'⟩,rv⟩:=dj C.vals iu
    rw[hv'] at hv2
    cases hv2
    have hm:=AL iu
    refine⟨u,rv,.inr ⟨.inr (S.free y hm),c,?_,o,hkb _ _ ho,hd'⟩⟩
    show(cellsFrom (s.heap.objs.size+1) scope.names cl).lookup y=some c
    rw[hU,FF]
    cases e:(cellsFrom (s.heap.objs.size+1) scope.names []).lookup y with
    | none=>exact hc
    | some d=>
     rcases oV (BF e) with z | z
     ·exact absurd hm (S.ZM _ z rfl)
     ·cases z
  ·rw[Aj (by rw[AG,AB,AB,hl,<-lf];rw[AG] at hi2;omega),AW] at h2'
   obtain⟨_,_,e⟩:=Bh.mp h2'
   cases e
 ·rcases iw (show(cellsFrom (s.heap.objs.size+1) scope.names cl).lookup y=some c from h) with a1 | ⟨_,a1⟩
  ·exact⟨_,(own a1).1⟩
  ·obtain⟨v,o,ho,hd'⟩:=C.cell y c a1
   exact⟨v,o,hkb _ _ ho,hd'⟩
 ·rcases iw (show(cellsFrom (s.heap.objs.size+1) scope.names cl).lookup y=some c from h) with a1 | ⟨_,a1⟩
  ·exact e0.hok.fresh (Bx (own a1).2)
  ·obtain⟨v,o,ho,hd'⟩:=C.cell y c a1
   exact(e0.bs c o ho).2
 ·show _=(ps++aI++ls).length
  rw[AG,AG,AB,AB,AB,AG,AG,hl,lf]
theorem Rv{P:Ak}{w:World}{K:AD}{mg:Str->Option Value}{base:Heap}{k:Nat}{f c':Addr}{name qual:Str}{params:CP}{body:List Stmt}{scope:Scope}{cl:List (Str×Addr)}{doc pm ctv:Value}{ps aI ls:List Str}{fvs:List V}{sp:Sp}
  (ho:base.get? f=some (PySem.W.fnMade name qual params body scope cl doc pm c' ctv)) (xY:base.CodeRec (.ref c') qual) (S:oW ps aI scope) (C:iP base cl aI fvs) (len:∀vs H Q E,sp vs H Q E->vs.length=ps.length)
  (hbody:∀(A:A9) (outer:List Env) (s:AI) (H:Hp) (vs:List V) (Q:VK) (E:XK),aP k (A.deeper (CN qual scope s.heap.objs.size f (.ref c') (cellsFrom (s.heap.objs.size+1) scope.names cl)))->sp vs H Q E->
   ∃t,jE (LO P w K mg base (ps++aI++ls) qual scope f (.ref c') cl A outer s H) body t/\t {nx:=λ_ H'=>Q .non H',rt:=Q} (vs.map some++fvs.map some++ls.map λ_=>none) H):
  aR P w K mg base bj (k+1) f (PySem.W.fnX name qual params body scope cl .none .none doc pm none (.ref c') ctv) ps sp:=by
 refine⟨len,λA outer s H args us vs Q E hr e0 hb r hsp=>?_⟩
 have hl:=len _ _ _ _ hsp
 have lim:s.heap.NoLimit:=e0.mod.nolimit.keeps λb o e=>(e0.bs b o e).1
 have NZ:s.heap.CodeRec (.ref c') qual:=by
  obtain⟨c,oc,vs',tq,hc,hoc,hdc,hq⟩:=xY
  exact⟨c,oc,vs',tq,hc,(e0.bs _ _ hoc).1,hdc,hq⟩
 refine EN hr.depth (e0.bs _ _ ho).1 rfl S.co S.gen rfl NZ (hb _ _ _ _ ?_)
 have hloc:∀y∈ps.zip us,scope.names.lookup y.1=some .local:=λ⟨n,v⟩ hy=>S.par n (DE hy).1
 refine Ru hloc (λh₁ hns hsb=>?_) S.kind
 have hk:∀b o,s.heap.get? b=some o->h₁.get? b=some o:=λb o e=>hsb.extBut b o (Ae (AN e)) (GI _ _ b o (AE _ e))
 refine⟨lim.keeps hk,?_⟩
 obtain⟨t,ht,hq⟩:=hbody A outer s H vs Q E (hr.deeper _) hsp
 have I:=inv_def (tk:=s.toks+(ps.zip us).length) (qual:=qual) (f:=f) (cd:=.ref c') ls S hr.hd e0 hl r C hns hsb
 refine codeAny_func (Bi (ht [] _ _ H _ I hq) (λfl s' hs=>?_) λe s' hs=>hs.elim)
 have fin:∀{σ':St} {H':Hp} {v:V} {u:Value},Inv (LO P w K mg base (ps++aI++ls) qual scope f (.ref c') cl A outer s H) [] σ' H' s'->RelV v u->Q v H'->CE outer P w H s Q u s':=
  λ{σ' H' v u} J rv q=>⟨v,H',J.os,J.bare,J.base,J.hok,rv,q⟩
 cases fl with
 | ret u=>
  obtain⟨v,σ',H',J,rv,q⟩:=hs
  exact fin J rv q
 | next=>
  obtain⟨σ',H',J,q⟩:=hs
  exact fin (v:=V.non) (u:=B5) J rfl q
 | brk=>
  obtain⟨_,_,_,q⟩:=hs
  exact Be q
 | cont=>
  obtain⟨_,_,_,q⟩:=hs
  exact Be q
theorem FnAt.Xa{X:Cx}{σ:St}{D:List Addr}{H:Hp}{base':Heap}{name:Str}{params:CP}{body:List Stmt}{scope:Scope}{clos:List (Str×Addr)}{c' f:Addr}{doc ctv:Value}{ps aI ls:List Str}{fvs:List V}{k:Nat}{sp:Sp}(W:Wide X σ D H base')
  (hf:H f=some (kQ f (qO X name params body scope clos doc c' ctv))) (TY:f∈D) (hc:H c'=some (kS c' (DX X.env name name))) (hcD:c'∈D) (S:oW ps aI scope) (sub:∀p∈clos,X.env.cells.lookup p.1=some p.2)
  (vals:Bv (λ(x:Str) (v:V)=>∃i:Nat,X.N[i]? =some x/\σ[i]? =some (some v)/\X.env.scope.names.lookup x=some .cell/\clos.lookup x=X.env.cells.lookup x) aI fvs)
  (hb:∀(us:List Value),us.length=ps.length->Gf (PySem.W.fnX name (DX X.env name name) params body scope clos .none .none doc ((X.mg "__name__").getD .none) none (.ref c') ctv) ⟨us,[]⟩=pure (ps.zip us)) (len:∀vs H Q E,sp vs H Q E->vs.length=ps.length)
  (hbody:∀(A:A9) (outer:List Env) (s:AI) (H:Hp) (vs:List V) (Q:VK) (E:XK),aP k (A.deeper (CN (DX X.env name name) scope s.heap.objs.size f (.ref c') (cellsFrom (s.heap.objs.size+1) scope.names clos)))->sp vs H Q E->
   ∃t,jE (LO X.prog X.w X.K X.mg base' (ps++aI++ls) (DX X.env name name) scope f (.ref c') clos A outer s H) body t/\t {nx:=λ_ H'=>Q .non H',rt:=Q} (vs.map some++fvs.map some++ls.map λ_=>none) H):FnAt X.prog X.w X.K X.mg base' (k+1) f ps.length sp:=by
 have ho:base'.get? f=some (qO X name params body scope clos doc c' ctv):=W.ext f _ TY hf
 have xY:base'.CodeRec (.ref c') (DX X.env name name):=W.ext c' _ hcD hc
 have sub':∀x c,clos.lookup x=some c->X.env.cells.lookup x=some c:=λx c e=>sub (x,c) (BF e)
 have C:iP base' clos aI fvs:=by
  refine⟨λx y c h1 h2=>W.inj x y c (sub' x c h1) (sub' y c h2),λx c h=>W.cell x c (sub' x c h),Paired.mP vals λx v ⟨i,h1,h2,h3,h4⟩=>?_⟩
  obtain⟨c,u,e1,e2,e3⟩:=W.val i x v h1 h2 h3
  exact⟨c,u,h4.trans e1,e2,e3⟩
 exact⟨_,_,ps,ho,rfl,rfl,hb,Rv ho xY S C len hbody⟩
def yf(P:Ak)(w:World)(H:Hp)(a:Addr)(y:V)(o:Option V):Prop:=∀(X:Cx) (pins:List (Addr×Obj)) (σ:St) (s:AI) (u:Value),X.prog=P->X.w=w->Inv X pins σ H s->RelV y u->s.TypeIs (.ref a) "dict"/\
 ∀(A:A9) (E:Value->AI->Prop),A.units+1<cLine->
  (∀(v:V) (Q:Value->AI->Prop),o=some v->(∀w' s',Inv X pins σ H s'->RelV v w'->Q w' s')->wpAny (model X.prog X.w) A (EZ (.ref a) u) Q E s)/\
  (∀Q:Value->AI->Prop,(∀s',Inv X pins σ H s'->Q (.bool o.isSome) s')->wpAny (model X.prog X.w) A (Bt .In u (.ref a)) Q E s)/\
  ∀Q:Value->AI->Prop,(∀s',Inv X pins σ H s'->Q (.bool (!o.isSome)) s')->wpAny (model X.prog X.w) A (Bt .NotIn u (.ref a)) Q E s
def N9(P:Ak)(w:World)(H:Hp)(a:Addr)(y v:V)(H':Hp):Prop:=∀(X:Cx) (pins:List (Addr×Obj)) (σ:St) (s:AI) (u r:Value),X.prog=P->X.w=w->Inv X pins σ H s->RelV y u->RelV v r->
 ∀(A:A9) (E:Value->AI->Prop) (Q:Unit->AI->Prop),A.units+1<cLine->(∀s',Inv X pins σ H' s'->Q () s')->wpAny (model X.prog X.w) A (setItem (.ref a) u r) Q E s
theorem iM.toS{P:Ak}{w:World}{H:Hp}{a:Addr}{y:V}{o:Option V}(g:iM H a y o):yf P w H a y o:=λ_ _ _ _ _ _ _ I ry=>
 ⟨qp I g,λ_ _ hu=>⟨λ_ _ e h=>u4 hu I (e▸g) ry h,λ_ h=>Zy hu I g ry h,λ_ h=>Q6 hu I g ry h⟩⟩
theorem iq.toS{P:Ak}{w:World}{H H':Hp}{a:Addr}{y v:V}(g:iq H a y v H'):N9 P w H a y v H':=λ_ _ _ _ _ _ _ _ I ry rv _ _ _ hu h=>u5 hu I g ry rv h
def Xb(P:Ak)(w:World)(td ty:TE):TE:=λσ H Q=>td σ H λx H1=>ty σ H1 λy H2=>∃a v,x=.ref a/\yf P w H2 a y (some v)/\Q v H2
def Rw(P:Ak)(w:World)(ty td:TE):TE:=λσ H Q=>ty σ H λy H1=>td σ H1 λx H2=>∃a o,x=.ref a/\yf P w H2 a y o/\Q (.bl (!o.isSome)) H2
def Xc(P:Ak)(w:World)(td ty tv:TE):TS:=λD σ H=>tv σ H λv H1=>td σ H1 λx H2=>ty σ H2 λy H3=>∃a H4,x=.ref a/\N9 P w H3 a y v H4/\D.nx σ H4
section
variable{X:Cx}{P:Ak}{w:World}{o i e value:Expr}{pos pos' tpos:Pos}{td ty tv:TE}
theorem IM(hu:X.A.units+1<cLine)(ho:PE X o td)(hi:PE X i ty)(hs:NA i)(hP:X.prog=P:=by rfl)(hw:X.w=w:=by rfl):PE X (.Subscript o i pos) (Xb P w td ty):=by
 intro pins s σ H Q I h
 refine Iv FG.lookup hs (aM (ho pins s σ H _ I h) λu s1 ⟨x,H1,I1,rx,q1⟩=>aM (hi pins s1 σ H1 _ I1 q1) λiv s2 ⟨y,H2,I2,ry,a,v,ex,g,q2⟩=>?_)
 subst ex
 obtain rfl:u=BI a:=rx
 obtain⟨t1,g1⟩:=g X pins σ s2 iv hP hw I2 ry
 exact⟨t1,(g1 _ _ hu).1 v _ rfl λw' s3 I3 il=>⟨v,H2,I3,il,q2⟩⟩
theorem vy(hu:X.A.units+1<cLine)(hi:PE X i ty)(ho:PE X o td)(hP:X.prog=P:=by rfl)(hw:X.w=w:=by rfl):PC X .NotIn i o (Rw P w ty td):=by
 intro pins s σ H Q I h
 refine aM (hi pins s σ H _ I h) λiv s1 ⟨y,H1,I1,ry,q1⟩=>aM (ho pins s1 σ H1 _ I1 q1) λu s2 ⟨x,H2,I2,rx,a,ov,ex,g,q2⟩=>?_
 subst ex
 obtain rfl:u=BI a:=rx
 obtain⟨t1,g1⟩:=g X pins σ s2 iv hP hw I2 ry
 exact(g1 _ _ hu).2.2 _ λs3 I3=>⟨.bl (!ov.isSome),H2,I3,rfl,q2⟩
theorem IP(hu:X.A.units+1<cLine)(ho:PE X o td)(hi:PE X i ty)(hv:PE X value tv)(hs:Gw value (some (.Subscript o i pos')) pos.line X.env=pure false)(hP:X.prog=P:=by rfl)(hw:X.w=w:=by rfl):
  PS X (.Assign [.Subscript o i pos'] value pos) (Xc P w td ty tv):=by
 intro pins s σ H D I h
 refine wpAny_Assign_Subscript (aM (hv pins s σ H _ I h) λr s1 ⟨v,H1,I1,rv,q1⟩=>aM (ho pins s1 σ H1 _ I1 q1) λu s2 ⟨x,H2,I2,rx,q2⟩=>aM (hi pins s2 σ H2 _ I2 q2) λiv s3 ⟨y,H3,I3,ry,a,H4,ex,g,q3⟩=>?_) hs
 subst ex
 obtain rfl:u=BI a:=rx
 exact g X pins σ s3 iv r hP hw I3 ry rv _ _ _ hu λs4 I4=>⟨σ,H4,I4,q3⟩
end
structure jK (P:Ak)(w:World)(α:Type) where
 Rep:α->V->Hp->Prop
 Num:Hp->Addr->List α->Prop
 same:∀{x:α} {v:V} {H H':Hp},Rep x v H->aW H H'->Rep x v H'
 keep:∀{H H':Hp} {D:Addr} {xs:List α},Num H D xs->H' D=H D->Num H' D xs
 isD:∀{H:Hp} {D:Addr} {xs:List α},Num H D xs->∃o,H D=some o/\(∀l,o≠.lst l)/\(∀l,o≠.tup l)
 there:∀{H:Hp} {D:Addr} {xs:List α} {i:Nat} {x:α} {v:V},Num H D xs->Rep x v H->xs.Nodup->xs[i]? =some x->yf P w H D v (some (.int ((i:Nat):Int)))
 miss:∀{H:Hp} {D:Addr} {xs:List α} {x:α} {v:V},Num H D xs->Rep x v H->x ∉ xs->yf P w H D v none
 put:∀{H:Hp} {D:Addr} {xs:List α} {x:α} {v:V},Num H D xs->Rep x v H->x ∉ xs->xs.length<sizeLine->∃H',N9 P w H D v (.int ((xs.length:Nat):Int)) H'/\KB D H H'/\Num H' D (xs++[x])
 t8:∀{X:Cx} {pos kpos cpos:Pos} {x:Str} {i j:Nat},X.A.units+1<cLine->PE X (.Name x kpos) (Jw i)->PE X (.Constant (.int 0) j cpos) (tC (.int 0))->X.prog=P->X.w=w->PE X (.Dict [some (.Name x kpos)] [.Constant (.int 0) j cpos] pos)
  (λσ H Q=>∃y v,σ[i]? =some (some v)/\Rep y v H/\∀D H',H D=none->Same H H'->Num H' D [y]->Q (.ref D) H')
def t7.toS{α:Type}(P:Ak)(w:World)(R:t7 α):jK P w α where
 Rep:=R.Rep
 Num:=R.Num
 same:=R.same
 keep:=R.keep
 isD:=R.isD
 there:=λh r nd e=>(R.there h r nd e).toS
 miss:=λh r n=>(R.miss h r n).toS
 put:=λh r n hl=>let ⟨H',g,k,z⟩:=R.put h r n hl;⟨H',g.toS,k,z⟩
 t8:=λhu h1 h2 _ _=>R.t8 hu h1 h2
theorem kU:E4 (.type "tuple") "keys"=pure none:=by rw[DH,CA];kernel_rfl
section
variable{P:Ak}{w:World}{A:A9}{E:Value->AI->Prop}{s:AI}
theorem wa{a:Addr}{xs:Array Value}{k:Nat}{sl:Array (Option Value)}{Q:Option Value->AI->Prop}(hx:s.heap.get? a=some ⟨.type "tuple",none,.seq xs k,sl⟩)(hA:A.handled=none)
  (h:∀h' tk,(∀b o,s.heap.get? b=some o->h'.get? b=some o)->Q none {s with heap:=h',toks:=tk}):wpAny (model P w) A (getAttr? (.ref a) "keys") Q E s:=by
 obtain⟨hp,g,d,tk,os⟩:=s
 have hT:∀tk',(⟨hp,g,d,tk',os⟩:AI).TypeIs (.ref a) "tuple":=λ_=>⟨_,hx,rfl⟩
 have f1:=sub_AttributeError
 have f3:=Dg.lookup
 have f4:=Dg.bind (.ref a)
 have f5:=am_tuple_getattr_none
 have f6:=kU
 unfold getAttr? getAttrBy? getAttrBy
 repeat (any_goals (first | assumption | exact hT _ | ((with_reducible show wpAny _ _ (call (Value.builtin "tuple.__getattribute__") _ _) _ _ _);refine E6 Dg (hT _) am_entry_tuple_getattribute (F.args_tuple_getattribute_2 _ _) (meets_getattribute_miss_tuple a xs k sl "keys" _ kU (by decide+kernel) (by size_fits)) ⟨hx,hA,λh' tk' e hx'=>?_⟩) | wp_step))
 obtain⟨t',u',he⟩:=hx'.there
 show wpAny _ _ (D5 _ _ _ _ _ _ _) _ _ _
 unfold D5
 repeat (any_goals (first | assumption | wp_step))
 exact h _ _ hx'.keeps
theorem ua{l:Addr}{its:Array Value}{nl:Nat}{sl:Array (Option Value)}{more:List (Key×Value)}{Q:Value->AI->Prop}(hh:A.handled=none)(hl:s.heap.get? l=some ⟨.type "tuple",none,.seq its nl,sl⟩)
  (hp:∀(i:Nat) (v:Value),its[i]? =some v->∃p k key u o m,v=.ref p/\more[i]? =some (k,u)/\(aY P w).is k key=true/\s.heap.get? p=some o/\o.cls=.type "tuple"/\o.data=.seq #[key,u] m) (hml:more.length=its.size) (hb:its.size<sizeLine)
  (h:∀h' tk,h'.DictOf (aY P w) s.heap.objs.size (Fv [] more)->(∀b o,s.heap.get? b=some o->h'.get? b=some o)->Q (.ref s.heap.objs.size) {s with heap:=h',toks:=tk}):
  wpAny (model P w) A (call (.type "dict") [.ref l]) Q E s:=by
 refine Gp (Q₁:=λobj s₁=>obj=.ref s.heap.objs.size/\s₁={s with heap:=s.heap.push {cls:=.type "dict",data:=.dict #[]}}) F.kt_called_dict (F.kt_typeCall_dict_1 _) F.entry_dict_init (kt_code_dict_new _ ⟨rfl,rfl⟩) ?_
 rintro obj s₁ ⟨rfl,rfl⟩
 have hnew:(s.heap.push {cls:=.type "dict",data:=.dict #[]}).DictOf (aY P w) s.heap.objs.size []:=GF s.heap
 have hl1:(s.heap.push {cls:=.type "dict",data:=.dict #[]}).get? l=some ⟨.type "tuple",none,.seq its nl,sl⟩:=AE _ hl
 have lS:l<s.heap.objs.size:=AN hl
 refine⟨hnew.typeIs,F.args_dict_init_2 _ _,?_⟩
 unfold Builtin.«dict.__init__»
 refine AA ?_
 unfold Fb
 refine AA (wpAny_notOrdered_dict hnew.typeIs ?_)
 show wpAny _ _ (pure (s.heap.objs.size,[BI l])) _ _ _
 refine AH ?_
 show wpAny _ _ (C4 "dict.__init__" s.heap.objs.size (.ref l) [] .none) _ _ _
 unfold C4
 refine AA (Ck (show FZ {s with heap:=s.heap.push {cls:=.type "dict",data:=.dict #[]}} (.ref l) "tuple" from⟨_,hl1,rfl⟩) ?_)
 rw[if_pos (by decide)]
 refine AA (wa hl1 (by simp[hh]) λh1 tk1 k1=>?_)
 rw[show(none:Option Value).isNone=true from rfl,if_pos rfl]
 refine AA (Ca ?_)
 have hl2:h1.IsTuple l its:=⟨_,k1 _ _ hl1,rfl,nl,rfl⟩
 refine AA (C8 hl2 ?_)
 refine AH ⟨CO dh _,?_⟩
 have TQ:l<h1.objs.size:=AN (k1 _ _ hl1)
 have vi:l≠h1.objs.size:=Ae TQ
 have x6:s.heap.objs.size<h1.objs.size:=by
  obtain⟨o,es,ep,ho,_⟩:=hnew
  exact AN (k1 _ _ ho)
 have nf:s.heap.objs.size ∉ [h1.objs.size,l]:=by
  simp only[Ac,CD,or_false,not_or]
  exact⟨Ae x6,Bo lS⟩
 have hh3:A.in1.in1.handled=none:=by simp[hh]
 refine vq ((Walks.tuple hh3 _ l vi its).toS) nf more hml hb (its.size-0) 0 0 _ (by omega) (BG _) ⟨⟨_,AO _ rfl,rfl,rfl⟩,hl2.push _⟩ (λi v hv=>?_) ?_ λs' mv hd=>?_
 ·obtain⟨p,k,key,u,o,m,e1,e2,e3,e4,e5,e6⟩:=hp i v hv
  have lp:=AN e4
  refine⟨p,k,key,u,o,m,e1,e2,e3,AE _ (k1 _ _ (AE _ e4)),e5,e6,Ae lp,λz=>?_⟩
  have e9:p=h1.objs.size:=AR.mp z
  rw[e9] at lp
  exact absurd (CG lp x6) (BQ _)
 ·show Heap.DictOf _ _ _ (Fv [] (more.take 0))
  obtain⟨o,es,ep,ho,r⟩:=hnew
  exact⟨o,es,ep,AE _ (k1 _ _ ho),r⟩
 ·obtain⟨h',g',d',tk',os'⟩:=s'
  have eg:g'=s.gens:=mv.gens
  have ed:d'=s.drawn:=mv.drawn
  have eo:os'=s.os:=mv.os
  subst eg ed eo
  refine⟨rfl,h h' tk' hd λb o e=>mv.heap b o (λz=>?_) (AE _ (k1 _ _ (AE _ e)))⟩
  have lb:=AN e
  simp only[Ac,CD,or_false] at z
  rcases z with z | z
  ·rw[z] at lb;exact BQ _ lb
  ·rw[z] at lb;exact BQ _ (CG lb x6)
end
section
variable{X:Cx}
def T7:List V->Hp->VK->Prop:=λvs H Q=>∃(l:Addr) (ps:List Addr) (kvs:List (Key×V)),vs=[.ref l]/\H l=some (.tup (ps.map V.ref))/\Bv (λ(p:Addr) (q:Key×V)=>H p=some (.tup [kV q.1,q.2])) ps kvs/\kvs.length<sizeLine/\∀D,H D=none->Q (.ref D) (upd H D (.dK (bP [] kvs)))
theorem J0(hA:X.A.handled=none):cS X (.type "dict") T7:=by
 intro pins s σ H xs us Q I r h
 obtain⟨l,ps,kvs,rfl,hl,hp,hb,q⟩:=h
 obtain⟨u,rfl,ru⟩:=vals1 r
 cases ru
 obtain⟨⟨z,o0,X7,hd0⟩,its,rv,⟨o1,ho1,hc1,n,hd1⟩⟩:=I.hok l _ hl
 rw[X7] at ho1
 cases ho1
 obtain⟨ag9,dd0,ag7,X8⟩:=o0
 simp only at hc1 hd1 hd0
 subst hc1 hd1 hd0
 have e:=X7
 have key:∀(ps:List Addr) (kvs:List (Key×V)) (its:List Value),Bv (λ(p:Addr) (q:Key×V)=>H p=some (.tup [kV q.1,q.2])) ps kvs->Vals (ps.map V.ref) its->
   ∃more:List (Key×Value),KV kvs more/\∀(i:Nat) (v:Value),its[i]? =some v->∃p k key u o m,v=.ref p/\more[i]? =some (k,u)/\(aY X.prog X.w).is k key=true/\s.heap.get? p=some o/\o.cls=.type "tuple"/\o.data=.seq #[key,u] m:=by
  intro ps kvs its a
  induction a generalizing its with
  | nil=>intro b;cases b;exact⟨[],.nil,λi v hv=>by simp at hv⟩
  | @cons p q ps kvs h t ih=>
   intro b
   cases b with
   | cons rp rt=>
    obtain⟨more,m1,m2⟩:=ih _ rt
    obtain⟨z2,its2,jF,o,ho,hc,m,hd⟩:=I.hok p _ h
    cases jF with
    | cons r1 r2=>
     cases r2 with
     | cons r2 r3=>
      cases r3
      cases(show _=BI p from rp)
      refine⟨(q.1,_)::more,.cons ⟨rfl,r2⟩ m1,λi v hv=>?_⟩
      cases i with
      | zero=>
       have e:BI p=v:=by simpa using hv
       exact⟨p,q.1,_,_,o,m,e.symm,rfl,jJ r1,ho,hc,hd⟩
      | succ i=>exact m2 i v (by simpa using hv)
 obtain⟨more,m1,m2⟩:=key ps kvs its hp rv
 have len1:more.length=its.length:=by rw[<-AX m1,<-AX hp,<-rv.length,AB]
 have len2:its.length=kvs.length:=by rw[<-len1,<-AX m1]
 refine ua (nl:=n) (its:=its.toArray) (more:=more) hA e (λi v hv=>m2 i v (by simpa using hv)) (by simpa using len1) (by rw[Ai,len2];exact hb) λh' tk dd kp=>?_
 have bg:(s.heap.objs.size == Bq)=false:=beq_eq_false_iff_ne.mpr (DM (Ae I.big))
 have hz:(bP [] kvs).length<=sizeLine:=by
  have h1:=fD kvs []
  rw[CK] at h1
  omega
 exact⟨.ref s.heap.objs.size,_,I.laid (a:=s.heap.objs.size) (o:=.dK (bP [] kvs)) (t':=tk) kp (AM _) ⟨hz,bg,_,m1.merge .nil,dd⟩,rfl,q _ (I.hok.fresh (AM _))⟩
end
section
variable{prog:Ak}{w:World}{A:A9}{E:Value->AI->Prop}{s:AI}
theorem LP{z TI TO i1 i2 l1 l2:Addr}{k:Nat}{xs ys:Array Value}{x y a b:Value}{Q:Value->AI->Prop}(D:DI z TI TO i1 i2 l1 l2)(gz:IsZip s.heap z TI TO .none)(gI:BP s.heap TI (.ref i1) (.ref i2))(gO:BP s.heap TO a b)
  (g1:s.heap.IsTupleIter i1 l1 k) (g2:s.heap.IsListIter i2 l2 k) (m1:s.heap.IsTuple l1 xs) (m2:s.heap.IsList l2 ys) (ex:xs[k]? =some x) (ey:ys[k]? =some y)
  (q:∀h',IsZip h' z TI TO (Aq s.heap.objs.size)->BP h' TO x y->h'.IsTupleIter i1 l1 (k+1)->h'.IsListIter i2 l2 (k+1)->BP h' s.heap.objs.size x y->h'.objs.size=s.heap.objs.size+1->
   (∀c o,c≠z->c≠TO->c≠i1->c≠i2->s.heap.get? c=some o->h'.get? c=some o)->Q (.ref s.heap.objs.size) {s with heap:=h'}):
  wpAny (model prog w) A (Builtin.«zip.__next__» ⟨[.ref z],[]⟩) (λfin s'=>∃v,fin=.done (.ret v)/\Q v s') E s:=by
 show wpAny _ _ (field (.ref z) 2 >>= _) _ _ _;refine AA (BA gz rfl (x:=.bool false) rfl ?_)
 show wpAny _ _ (field (.ref z) 3 >>= _) _ _ _;refine AA (BA gz rfl (x:=.ref TI) rfl ?_);refine AA (BU gI rfl ?_)
 show wpAny _ _ (Ah (.ref z) >>= _) _ _ _;refine AA ?_;unfold Ah
 refine AA (BA gz rfl (x:=.none) rfl (AH ?_));simp only[if_true];refine AA (Ca ?_)
 refine AA (BA gz rfl (x:=.ref TO) rfl ?_);refine AA (BD gz (by simp) λh1 z1 s1=>?_)
 replace z1:IsZip h1 z TI TO .ellipsis:=z1
 refine AA ?_;simp only[EW,Eo,CL,C5];refine AA (AA (Dv ?_))
 show wpAny _ _ (A2 (.ref i1) >>= _) _ _ _;refine AA (gB (bh g1 s1.extBut D.i1z) (cY m1 s1.extBut D.l1z) ex λh2 LC s2=>AH ?_)
 have O2:BP h2 TO a b:=s2.extBut _ _ D.TOi1 (s1.extBut _ _ D.TOz gO)
 refine AA (BU O2 rfl ?_);refine AA (DW O2 λh3 O3 s3=>?_)
 replace O3:BP h3 TO x b:=O3
 refine AA (FO (AH ?_));refine AA (AA (Dv ?_))
 show wpAny _ _ (A2 (.ref i2) >>= _) _ _ _;refine AA (wpAny_nextOf_list_item (((g2.extBut s1.extBut D.i2z).extBut s2.extBut D.i12.symm).extBut s3.extBut D.TOi2.symm) (((m2.extBut s1.extBut D.l2z).extBut s2.extBut D.l2i1).extBut s3.extBut D.l2TO) ey λh4 T_ s4=>AH ?_)
 have O4:BP h4 TO x b:=s4.extBut _ _ D.TOi2 O3
 refine AA (BU O4 rfl ?_);refine AA (DW O4 λh5 O5 s5=>?_)
 replace O5:BP h5 TO x y:=O5
 refine AA (FO (AH (AH ?_)));refine AA (BU O5 rfl ?_);refine AA (FD ?_)
 have sz:h5.objs.size=s.heap.objs.size:=by rw[s5.1,s4.1,s3.1,s2.1,s1.1]
 have z5:IsZip h5 z TI TO .ellipsis:=s5.extBut _ _ D.TOz.symm (s4.extBut _ _ D.i2z.symm (s3.extBut _ _ D.TOz.symm (s2.extBut _ _ D.i1z.symm z1)))
 have k5:∀c o,c≠z->c≠TO->c≠i1->c≠i2->s.heap.get? c=some o->h5.get? c=some o:=λc o c1 c2 c3 c4 e=>s5.extBut _ _ c2 (s4.extBut _ _ c4 (s3.extBut _ _ c2 (s2.extBut _ _ c3 (s1.extBut _ _ c1 e))))
 have a5:h5.IsTupleIter i1 l1 (k+1):=bh (bh (bh LC s3.extBut D.TOi1.symm) s4.extBut D.i12) s5.extBut D.TOi1.symm
 have b5:h5.IsListIter i2 l2 (k+1):=T_.extBut s5.extBut D.TOi2.symm
 have LF:z<h5.objs.size:=AN z5
 show wpAny _ _ (Bs (.ref z) (.ref h5.objs.size) >>= _) _ _ _
 refine AA ?_;unfold Bs
 have z6:IsZip (h5.push {cls:=.type "tuple",data:=.seq #[x,y]}) z TI TO .ellipsis:=AE _ z5
 refine AA (BD z6 (by simp) λh7 z7 s7=>?_)
 replace z7:IsZip h7 z TI TO (Aq h5.objs.size):=z7
 refine BD z7 (by simp) λh8 z8 s8=>?_
 replace z8:IsZip h8 z TI TO (Aq h5.objs.size):=z8
 have up:∀c o,c≠z->h5.get? c=some o->h8.get? c=some o:=λc o c1 e=>s8.extBut _ _ c1 (s7.extBut _ _ c1 (AE _ e))
 have T8:BP h8 h5.objs.size x y:=s8.extBut _ _ (Bo LF) (s7.extBut _ _ (Bo LF) (AO _ rfl))
 have e8:h8.objs.size=h5.objs.size+1:=by rw[s8.1,s7.1,Ay]
 rw[sz] at z8 T8 e8
 refine AH ⟨_,rfl,?_⟩;show Q (.ref h5.objs.size) _;rw[sz]
 exact q h8 z8 (up _ _ D.TOz O5) (let ⟨o,ho,r⟩:=a5;⟨o,up _ _ D.i1z ho,r⟩) (b5.at λo e=>up _ o D.i2z e) T8 e8 λc o c1 c2 c3 c4 e=>up c o c1 (k5 c o c1 c2 c3 c4 e)
theorem N'{z TI TO i1 i2 l1 l2:Addr}{k:Nat}{xs ys:Array Value}{a b:Value}{Q:Fin->AI->Prop}(hh:A.handled=none)(D:DI z TI TO i1 i2 l1 l2)(gz:IsZip s.heap z TI TO .none)(gI:BP s.heap TI (.ref i1) (.ref i2))(gO:BP s.heap TO a b)
  (g1:s.heap.IsTupleIter i1 l1 k) (g2:s.heap.IsListIter i2 l2 k) (m1:s.heap.IsTuple l1 xs) (m2:s.heap.IsList l2 ys) (ex:xs[k]? =none)
  (q:∀h' e,(∀c o,c≠z->c≠TO->c≠i1->c≠i2->s.heap.get? c=some o->h'.get? c=some o)->(∃o,h'.get? e=some o/\o.cls=.type "StopIteration")->E (.ref e) {s with heap:=h'}):
  wpAny (model prog w) A (Builtin.«zip.__next__» ⟨[.ref z],[]⟩) Q E s:=by
 show wpAny _ _ (field (.ref z) 2 >>= _) _ _ _;refine AA (BA gz rfl (x:=.bool false) rfl ?_)
 show wpAny _ _ (field (.ref z) 3 >>= _) _ _ _;refine AA (BA gz rfl (x:=.ref TI) rfl ?_);refine AA (BU gI rfl ?_)
 show wpAny _ _ (Ah (.ref z) >>= _) _ _ _;refine AA ?_;unfold Ah
 refine AA (BA gz rfl (x:=.none) rfl (AH ?_));simp only[if_true];refine AA (Ca ?_)
 refine AA (BA gz rfl (x:=.ref TO) rfl ?_);refine AA (BD gz (by simp) λh1 z1 s1=>?_)
 replace z1:IsZip h1 z TI TO .ellipsis:=z1
 refine AA ?_;simp only[EW,Eo,CL,C5];refine AA (AA (Dv ?_))
 show wpAny _ _ (A2 (.ref i1) >>= _) _ _ _;refine AA (lK hh (bh g1 s1.extBut D.i1z) (cY m1 s1.extBut D.l1z) ex λh2 e s2 he=>?_)
 obtain⟨oe,hoe,hce⟩:=he
 have z2:IsZip h2 z TI TO .ellipsis:=s2 _ _ D.i1z.symm z1
 have T2:e≠z:=λx=>by subst x;rw[z2] at hoe;cases hoe;simp at hce
 refine BD z2 (by simp) λh3 _ s3=>q h3 e (λc o c1 _ c3 _ x=>s3.extBut _ _ c1 (s2 _ _ c3 (s1.extBut _ _ c1 x))) ⟨oe,s3.extBut _ _ T2 hoe,hce⟩
theorem LQ{z TI TO i1 i2 l1 l2:Addr}{k:Nat}{xs ys:Array Value}{x y a b:Value}{Q:Option Value->AI->Prop}(D:DI z TI TO i1 i2 l1 l2)(gz:IsZip s.heap z TI TO .none)(gI:BP s.heap TI (.ref i1) (.ref i2))(gO:BP s.heap TO a b)
  (g1:s.heap.IsTupleIter i1 l1 k) (g2:s.heap.IsListIter i2 l2 k) (m1:s.heap.IsTuple l1 xs) (m2:s.heap.IsList l2 ys) (ex:xs[k]? =some x) (ey:ys[k]? =some y)
  (q:∀h',IsZip h' z TI TO (Aq s.heap.objs.size)->BP h' TO x y->h'.IsTupleIter i1 l1 (k+1)->h'.IsListIter i2 l2 (k+1)->BP h' s.heap.objs.size x y->h'.objs.size=s.heap.objs.size+1->
   (∀c o,c≠z->c≠TO->c≠i1->c≠i2->s.heap.get? c=some o->h'.get? c=some o)->Q (some (.ref s.heap.objs.size)) {s with heap:=h'}):wpAny (model prog w) A (Ce (.ref z)) Q E s:=by
 have ty:s.TypeIs (.ref z) "zip":=⟨_,gz,rfl⟩
 unfold Ce
 exact AA (Ct (BE (name:=By "__next__") ty Bj (BJ Bj ty DA (LP D gz gI gO g1 g2 m1 m2 ex ey λh' a1 a2 a3 a4 a5 a6 a7=>AH (q h' a1 a2 a3 a4 a5 a6 a7)) (C6 _))))
theorem J4{z TI TO i1 i2 l1 l2:Addr}{k:Nat}{xs ys:Array Value}{a b:Value}{Q:Option Value->AI->Prop}(hh:A.handled=none)(D:DI z TI TO i1 i2 l1 l2)(gz:IsZip s.heap z TI TO .none)(gI:BP s.heap TI (.ref i1) (.ref i2))(gO:BP s.heap TO a b)
  (g1:s.heap.IsTupleIter i1 l1 k) (g2:s.heap.IsListIter i2 l2 k) (m1:s.heap.IsTuple l1 xs) (m2:s.heap.IsList l2 ys) (ex:xs[k]? =none)
  (q:∀h',(∀c o,c≠z->c≠TO->c≠i1->c≠i2->s.heap.get? c=some o->h'.get? c=some o)->Q none {s with heap:=h'}):wpAny (model prog w) A (Ce (.ref z)) Q E s:=by
 have ty:s.TypeIs (.ref z) "zip":=⟨_,gz,rfl⟩
 unfold Ce
 refine AA (Ct (BE (name:=By "__next__") ty Bj (BJ Bj ty DA (N' hh D gz gI gO g1 g2 m1 m2 ex λh' e hk he=>?_) (C6 _))))
 obtain⟨o,ho,hc⟩:=he
 exact AA (CQ (T:="StopIteration") (b:=true) ⟨o,ho,hc⟩ EJ (AH (q _ hk)))
abbrev LU (h:Heap)(l1 l2:Addr):Heap:=(h.push (oR l1)).push (itL l2)
abbrev PL (h:Heap)(l1 l2:Addr):Heap:=(LU h l1 l2).push {cls:=.type "tuple",data:=.seq #[.ref h.objs.size,.ref (h.push (oR l1)).objs.size]}
abbrev LV (h:Heap)(l1 l2:Addr):Heap:=(PL h l1 l2).push {cls:=.type "tuple",data:=.seq #[.none,.none]}
abbrev vz (h:Heap)(l1 l2:Addr):Heap:=(LV h l1 l2).push {cls:=.type "zip",data:=.fields #[.none,.bool false,.bool false,.ref (LU h l1 l2).objs.size,.ref (PL h l1 l2).objs.size]}
theorem J5(l1 l2:Addr)(xs ys:Array Value):Meets (Builtin.«zip.__new__» ⟨[.type "zip",.ref l1,.ref l2],[]⟩) (λ_ R s=>s.heap.IsTuple l1 xs/\s.heap.IsList l2 ys/\R (.ok (.ret (.ref (LV s.heap l1 l2).objs.size))) {s with heap:=vz s.heap l1 l2}):=
 .of_wp λprog w A R s h=>by
  obtain⟨hp,g,d,tk,os⟩:=s;obtain⟨m1,m2,h⟩:=h
  have hsub:=PySem.sub_zip
  have L1:HZ (Gr ⟨hp,g,d,tk,os⟩) l1 xs:=m1
  have L2:Heap.IsList (Gr ⟨hp.push (oR l1),g,d,tk,os⟩) l2 ys:=let ⟨o,ho,r⟩:=m2;⟨o,AE _ ho,r⟩
  wp_walk using C8 L1,DN L2
  exact⟨_,rfl,h⟩
theorem LW{l1 l2:Addr}{xs ys:Array Value}{Q:Value->AI->Prop}(m1:s.heap.IsTuple l1 xs)(m2:s.heap.IsList l2 ys)
  (q:∀h',IsZip h' (s.heap.objs.size+4) (s.heap.objs.size+2) (s.heap.objs.size+3) .none->BP h' (s.heap.objs.size+2) (.ref s.heap.objs.size) (.ref (s.heap.objs.size+1))->
   BP h' (s.heap.objs.size+3) .none .none->h'.IsTupleIter s.heap.objs.size l1 0->h'.IsListIter (s.heap.objs.size+1) l2 0->
   (∀c o,s.heap.get? c=some o->h'.get? c=some o)->Q (.ref (s.heap.objs.size+4)) {s with heap:=h'}):wpAny (model prog w) A (call (.type "zip") [.ref l1,.ref l2]) Q E s:=by
 refine callType_new HI (by decide) (F_ _ _) (GR _ _) (λobj=>FE obj _ _) GS (J5 l1 l2 xs ys) ⟨m1,m2,?_⟩
 have e1:(s.heap.push (oR l1)).objs.size=s.heap.objs.size+1:=Ay ..
 have e2:(LU s.heap l1 l2).objs.size=s.heap.objs.size+2:=by rw[Ay,e1]
 have e3:(PL s.heap l1 l2).objs.size=s.heap.objs.size+3:=by rw[Ay,e2]
 have e4:(LV s.heap l1 l2).objs.size=s.heap.objs.size+4:=by rw[Ay,e3]
 have p5:(vz s.heap l1 l2).get? (LV s.heap l1 l2).objs.size=some _:=AO _ rfl
 have up:∀{c:Addr} {o:Obj},(LV s.heap l1 l2).get? c=some o->(vz s.heap l1 l2).get? c=some o:=λx=>AE _ x
 have p4:(vz s.heap l1 l2).get? (PL s.heap l1 l2).objs.size=some _:=up (AO _ rfl)
 have p3:(vz s.heap l1 l2).get? (LU s.heap l1 l2).objs.size=some _:=up (AE _ (AO _ rfl))
 have ye:∀{c:Addr} {o:Obj},(LU s.heap l1 l2).get? c=some o->(vz s.heap l1 l2).get? c=some o:=λx=>up (AE _ (AE _ x))
 have p2:(vz s.heap l1 l2).get? (s.heap.push (oR l1)).objs.size=some _:=ye (AO _ rfl)
 have p1:(vz s.heap l1 l2).get? s.heap.objs.size=some _:=ye (AE _ (AO _ rfl))
 show _/\_
 rw[e2,e3,e4] at p5
 rw[e1,e2] at p3
 rw[e3] at p4
 rw[e1] at p2
 rw[e4]
 exact⟨⟨_,p5,rfl⟩,q _ p5 p3 p4 ⟨_,p1,rfl,rfl⟩ ⟨_,p2,rfl,rfl⟩ λc o x=>ye (AE _ (AE _ x))⟩
end
def Oa(K:AD)(a b:Addr):It:=
 ⟨λi H=>∃xs ys x y,aZ K H a xs/\bz K H b ys/\xs[i]? =some x/\ys[i]? =some y,
  λi H v H'=>∃x y p,(∀xs,aZ K H a xs->xs[i]? =some x)/\(∀ys,bz K H b ys->ys[i]? =some y)/\H p=none/\v=.ref p/\H'=upd H p (.tup [x,y]),
  λi H=>∃xs ys,aZ K H a xs/\bz K H b ys/\xs.length<=i⟩
theorem LX{P:Ak}{w:World}{K:AD}{elts:List Expr}{x1}{tpos:Pos}(a b z TI TO i1 i2:Addr)(D:DI z TI TO i1 i2 a b):
  Turn P w K (.Tuple elts x1 tpos) (Oa K a b) [z,TO,i1,i2,TI] z (λi h=>IsZip h z TI TO .none/\BP h TI (.ref i1) (.ref i2)/\(∃x y,BP h TO x y)/\h.IsTupleIter i1 a i/\h.IsListIter i2 b i) where
 mem:=by simp
 obj:=λi h st c hc=>by
  obtain⟨hz,hTI,⟨x,y,hTO⟩,h1,h2⟩:=st
  have hc':c=z∨c=TO∨c=i1∨c=i2∨c=TI:=by simpa using hc
  rcases hc' with q | q | q | q | q
  ·subst q;exact⟨_,hz,λv e=>nomatch e⟩
  ·subst q;exact⟨_,hTO,λv e=>nomatch e⟩
  ·subst q
   obtain⟨o,e,_,d⟩:=h1
   exact⟨o,e,λv q=>by rw[d] at q;cases q⟩
  ·subst q
   obtain⟨o,e,_,d⟩:=h2
   exact⟨o,e,λv q=>by rw[d] at q;cases q⟩
  ·subst q;exact⟨_,hTI,λv e=>nomatch e⟩
 keep:=λi h h' st k=>by
  obtain⟨hz,hTI,⟨x,y,hTO⟩,h1,h2⟩:=st
  exact⟨k z (by simp) _ hz,k TI (by simp) _ hTI,⟨x,y,k TO (by simp) _ hTO⟩,let ⟨o,ho,r⟩:=h1;⟨o,k i1 (by simp) o ho,r⟩,h2.at λo q=>k i2 (by simp) o q⟩
 item:=by
  intro X hP hw hK hc i pins s σ H E I hf st hg
  subst hP hw hK
  obtain⟨hz,hTI,⟨u1,u2,hTO⟩,h1,h2⟩:=st
  obtain⟨xs,ys,x,y,hq,hq2,hx,hy⟩:=hg
  obtain⟨its,rv,p,_⟩:=I.tuple hq
  obtain⟨its2,jF,p2,_⟩:=I.list hq2
  obtain⟨u,hu,ru⟩:=rv.get hx
  obtain⟨v,hv,rv'⟩:=jF.get hy
  refine LQ D hz hTI hTO h1 h2 (show s.heap.IsTuple a its.toArray from p) p2.isList (x:=u) (y:=v) (by simpa using hu) (by simpa using hv) λh1' a1 a2 a3 a4 a5 a6 kk=>?_
  have nn:H s.heap.objs.size=none:=I.hok.fresh (AM _)
  have oP:∀c∈[z,TO,i1,i2],fK X pins H c:=λc hc=>hf c (by
   have hc':c=z∨c=TO∨c=i1∨c=i2:=by simpa using hc
   rcases hc' with q | q | q | q<;>simp[q])
  have I1:Inv X pins σ (upd H s.heap.objs.size (.tup [x,y])) {s with heap:=h1',toks:=s.toks}:=
   I.mW (ch:=[z,TO,i1,i2]) oP (λc o hc q=>kk c o (λe=>hc (by simp[e])) (λe=>hc (by simp[e])) (λe=>hc (by simp[e])) (λe=>hc (by simp[e])) q) (AM _)
    ⟨⟨by show 2<=sizeLine;decide,_,a5,rfl⟩,[u,v],.cons ru (.cons rv' .nil),⟨_,a5,rfl,_,rfl⟩⟩
  have lz:z<s.heap.objs.size:=AN hz
  have Lg:TI<s.heap.objs.size:=AN hTI
  have Lh:TO<s.heap.objs.size:=AN hTO
  have l1:i1<s.heap.objs.size:=by obtain⟨o,q,_⟩:=id h1;exact AN q
  have l2:i2<s.heap.objs.size:=by obtain⟨o,q,_⟩:=id h2;exact AN q
  refine⟨_,rfl,Df a1 λh2' e2 sb=>?_⟩
  obtain⟨f0,f1,f2,f3,f4,f5⟩:=hf z (by simp)
  have I2:=I1.turned (h':=h2') (t':=s.toks) (it:=z) (λc o hc q=>(sb.2 c hc).trans q) (by rw[ao (Ae lz)];exact f0) f1 f3 f4 f5
  refine⟨.ref s.heap.objs.size,_,I2,rfl,⟨x,y,s.heap.objs.size,λzs hy=>by rw[I.jc hy hq];exact hx,λzs hz'=>by rw[I.iI hz' hq2];exact hy,nn,rfl,rfl⟩,
   ⟨e2,(sb.2 TI D.TIz).trans (kk _ _ D.TIz D.TITO D.TIi1 D.TIi2 hTI),⟨_,_,(sb.2 TO D.TOz).trans a2⟩,let ⟨o,ho,r⟩:=a3;⟨o,(sb.2 i1 D.i1z).trans ho,r⟩,a4.at λo q=>(sb.2 i2 D.i2z).trans q⟩,λc hc=>?_⟩
  have hlt:c<s.heap.objs.size:=by
   have hc':c=z∨c=TO∨c=i1∨c=i2∨c=TI:=by simpa using hc
   rcases hc' with q | q | q | q | q
   ·rw[q];exact lz
   ·rw[q];exact Lh
   ·rw[q];exact l1
   ·rw[q];exact l2
   ·rw[q];exact Lg
  rw[ao (Ae hlt)]
  exact(hf c hc).1
 done:=by
  intro X hP hw hK hc i pins s σ H E I hf st hg
  subst hP hw hK
  obtain⟨hz,hTI,⟨u1,u2,hTO⟩,h1,h2⟩:=st
  obtain⟨xs,ys,hq,hq2,hx⟩:=hg
  obtain⟨its,rv,p,_⟩:=I.tuple hq
  obtain⟨its2,jF,p2,_⟩:=I.list hq2
  have hl:=rv.length
  have oP:∀c∈[z,TO,i1,i2],fK X pins H c:=λc hc=>hf c (by
   have hc':c=z∨c=TO∨c=i1∨c=i2:=by simpa using hc
   rcases hc' with q | q | q | q<;>simp[q])
  exact J4 (I.ok.hd hc) D hz hTI hTO h1 h2 (show s.heap.IsTuple a its.toArray from p) p2.isList (by simp;omega) λh' kk=>
   ⟨rfl,I.tZ (t':=s.toks) (ch:=[z,TO,i1,i2]) oP (λc o hc q=>kk c o (λe=>hc (by simp[e])) (λe=>hc (by simp[e])) (λe=>hc (by simp[e])) (λe=>hc (by simp[e])) q)⟩
 self:=λ_ _ _ _ _ st h=>Cz st.1 h
def PN(K:AD)(ta:TA):TI:=λσ H R=>ta σ H λvs H1=>∃a b,vs=[.ref a,.ref b]/\(∃xs,aZ K H1 a xs)/\(∃ys,bz K H1 b ys)/\R (Oa K a b) H1
theorem IQ{X:Cx}{elts:List Expr}{x1}{tpos:Pos}{a b:Expr}{ta:TA}{p pos:Pos}(hg:Gl X "zip")(hm:X.mg "zip"=none)(ha:PA X [a,b] ta)
  (hs:BC [a,b] X.env=[(false,eval a X.env),(false,eval b X.env)]:=by rfl) (hs2:BC [b] X.env=[(false,eval b X.env)]:=by rfl):
  PI X (.Tuple elts x1 tpos) (.Call (.Name "zip" p) [a,b] [] pos) (PN X.K ta):=by
 intro pins s σ H R I h
 refine Call_ (gy I hg hm boot_zip (BO (aM (ha pos pins s σ H _ I h) λus s1 ⟨vs,H1,I1,r1,q1⟩=>?_) (by rw[hs,hs2]) (by rw[hs2];rfl)))
 obtain⟨l1,l2,e,⟨xs,hq⟩,⟨ys,hq2⟩,q⟩:=q1
 subst e
 cases r1 with
 | cons r rr=>
  cases rr with
  | cons r' rr=>
   cases rr
   cases r
   cases r'
   obtain⟨its,rv,pl,_⟩:=I1.tuple hq
   obtain⟨its2,jF,vg,_⟩:=I1.list hq2
   have a1:l1<s1.heap.objs.size:=by obtain⟨_,e,_⟩:=(show s1.heap.IsTuple l1 its.toArray from pl);exact AN e
   have a2:l2<s1.heap.objs.size:=by obtain⟨_,e,_⟩:=vg.isList;exact AN e
   refine LW (show s1.heap.IsTuple l1 its.toArray from pl) vg.isList λh' hz hTI hTO hi1 hi2 kk=>?_
   have I2:Inv X pins σ H1 {s1 with heap:=h'}:=I1.kept (t':=s1.toks) kk
   refine Cz hz ?_
   refine⟨s1.heap.objs.size+4,[s1.heap.objs.size+4,s1.heap.objs.size+3,s1.heap.objs.size,s1.heap.objs.size+1,s1.heap.objs.size+2],_,_,H1,rfl,I2,LX l1 l2 _ _ _ _ _ (zipApart_new a1 a2),⟨hz,hTI,⟨_,_,hTO⟩,hi1,hi2⟩,λc hc=>?_,q⟩
   have hle:s1.heap.objs.size<=c:=by
    have hc':c=s1.heap.objs.size+4∨c=s1.heap.objs.size+3∨c=s1.heap.objs.size∨c=s1.heap.objs.size+1∨c=s1.heap.objs.size+2:=by simpa using hc
    rcases hc' with q | q | q | q | q<;>(rw[q];first | exact EV _ _ | exact AM _)
   exact I1.jZ hle (I1.hok.fresh hle)
theorem vA{K:AD}{a b:Addr}{xs ys:List V}{g:TG}{tt:TT}{te:TE}{D:Addr}{σ:St}{H:Hp}{R:Hp->Prop}(Pv:Nat->St->Hp->Prop)(hlen:xs.length=ys.length)(h0:Pv 0 σ H)(hl:∀i σ H,i<=xs.length->Pv i σ H->aZ K H a xs/\bz K H b ys)
  (hs:∀i x y p σ H,xs[i]? =some x->ys[i]? =some y->Pv i σ H->H p=none->g (.ref p) σ (upd H p (.tup [x,y])) λσ2 H2=>tt σ2 H2 λb H3=>if b=true then te σ2 H3 λy H4=>∃ys,H4 D=some (.lst ys)/\ys.length<sizeLine/\Pv (i+1) σ2 (upd H4 D (.lst (ys++[y]))) else Pv (i+1) σ2 H3)
  (hd:∀σ H,Pv xs.length σ H->R H):kK (Oa K a b) g tt te D σ H R:=by
 refine⟨λi m σ H=>m=xs.length-i/\i<=xs.length/\Pv i σ H,⟨xs.length,by simp,BG _,h0⟩,?_⟩
 rintro i m σ H ⟨rfl,hi,p⟩
 obtain⟨q1,q2⟩:=hl i σ H hi p
 by_cases hlt:i<xs.length
 ·refine .inr ⟨⟨xs,ys,xs[i],ys[i]'(by omega),q1,q2,by simp[hlt],by simp[hlen▸hlt]⟩,Pv (i+1),λσ' H' p'=>⟨xs.length-(i+1),by omega,rfl,hlt,p'⟩,λv H' y=>?_⟩
  obtain⟨x,y,p',e1,e2,e3,rfl,rfl⟩:=y
  exact hs i x y p' σ H (e1 xs q1) (e2 ys q2) p e3
 ·have e:i=xs.length:=by omega
  subst e
  exact .inl ⟨⟨xs,ys,q1,q2,AM _⟩,hd σ H p⟩
theorem Ob{X:Cx}{elts:List Expr}{x1}{tpos:Pos}{a b:Expr}{ta:TA}{p pos:Pos}(K:AD)(hg:Gl X "zip")(hm:X.mg "zip"=none)(ha:PA X [a,b] ta)
  (hs:BC [a,b] X.env=[(false,eval a X.env),(false,eval b X.env)]:=by rfl) (hs2:BC [b] X.env=[(false,eval b X.env)]:=by rfl) (hK:X.K=K:=by rfl):
  PI X (.Tuple elts x1 tpos) (.Call (.Name "zip" p) [a,b] [] pos) (PN K ta):=by subst hK;exact IQ hg hm ha hs hs2
section
variable{X:Cx}
def T9:V->List V->Hp->VK->Prop:=λx vs H Q=>∃z:Str,x=.str z/\vs=[]/\Er (G3 z).length=false/\Q (.str (G3 z)) H
theorem Oc:xE X "str.upper" T9:=by
 intro pins s σ H x vs v us Q I rx rv h
 obtain⟨z,rfl,rfl,hz,q⟩:=h
 obtain⟨t,rfl⟩:=rx
 cases rv
 exact call_gives F' (E5 _ _ _) PySem.F.entry_str_upper (PySem.F.args_str_upper_1 _) (gives_str_upper z t hz) ⟨fit_le hz,.str _,H,I.tok _,⟨_,rfl⟩,q⟩
def Xd:List V->Hp->VK->Prop:=λxs H Q=>∃(d:Addr) (kvs:List (Key×V)),xs=[.ref d]/\H d=some (.dK kvs)/\Q (.int kvs.length) H
theorem LY:cS X (.builtin "len") Xd:=by
 intro pins s σ H xs us Q I r h
 obtain⟨d,kvs,rfl,hd,q⟩:=h
 obtain⟨u,rfl,ru⟩:=vals1 r
 cases ru
 obtain⟨hz,lo,vs,rel,dd⟩:=xm I.hok hd
 have hl:=lU
 have hs:sizeLine=16777216:=Ee
 have XY:kvs.length=vs.length:=rel.length
 exact call_len_dict lo dd (by omega) ⟨.int kvs.length,H,I.tok _,⟨_,by rw[XY]⟩,q⟩
end
section
variable{X:Cx}{o:Expr}{to:TE}{name:Str}{apos cpos:Pos}{T id:String}{r:V->List V->Hp->VK->Prop}
theorem Rx(K:AD)(pa:PlainAttrs T)(slot:Slot T name id)(hty:typeOf (.builtin id)=pure (.type "method_descriptor"))(hm:SG X id r)(ho:PE X o to)
  (hbase:FV o name X.env (eval o X.env)=eval o X.env:=by rfl) (hline:(apos.endLine == cpos.line)=true:=by rfl) (hK:X.K=K:=by rfl):PE X (.Call (.Attribute o name apos) [] [] cpos) (SO K T r to):=by
 subst hK
 exact xD pa slot hty hm ho hbase hline
end
theorem Od{kvs:List (Key×V)}{k:Key}{v:V}{p:Key×V}(h:p∈putK kvs k v):p=(k,v)∨p∈kvs:=by
 unfold putK at h
 split at h
 ·obtain⟨q,hq,e⟩:=A1.mp h
  by_cases z:q.1=k
  ·rw[if_pos z] at e;exact .inl (by rw[<-e,z])
  ·rw[if_neg z] at e;exact .inr (e▸hq)
 ·rcases Ab.mp h with z | z
  ·exact .inr z
  ·exact .inl (AR.mp z)
theorem sj:∀{more kvs:List (Key×V)} {p:Key×V},p∈bP kvs more->p∈kvs∨p∈more
 | [],_,_,h=>.inl h
 | q::r,kvs,p,h=>by
  rcases sj (more:=r) (kvs:=putK kvs q.1 q.2) h with z | z
  ·rcases Od z with y | y
   ·exact .inr (by rw[y];exact AZ)
   ·exact .inl y
  ·exact .inr (AV _ z)
theorem yg(kvs:List (Key×V))(k:Key)(v:V):0<(putK kvs k v).length/\kvs.length<=(putK kvs k v).length:=by
 unfold putK
 split
 ·rename_i h
  rw[AB]
  exact⟨by cases kvs with | nil=>exact absurd h (by simp) | cons _ _=>exact Nat.succ_pos _,AM _⟩
 ·rw[AG];exact⟨Nat.succ_pos _,EV _ _⟩
theorem vB:∀(more kvs:List (Key×V)),kvs.length<=(bP kvs more).length
 | [],_=>AM _
 | q::r,kvs=>BB (yg kvs q.1 q.2).2 (vB r (putK kvs q.1 q.2))
theorem J6{more:List (Key×V)}(h:0<more.length):0<(bP [] more).length:=by
 match more,h with
 | q::r,_=>exact AY (yg [] q.1 q.2).1 (vB r (putK [] q.1 q.2))
theorem Ry{kvs:List (Key×V)}{k:Key}(h:∃q∈kvs,q.1=k):∃q∈kvs,q.1=k/\bt kvs k=some q.2:=by
 induction kvs with
 | nil=>obtain⟨q,hq,_⟩:=h;cases hq
 | cons p r ih=>
  by_cases e:p.1=k
  ·exact⟨p,AZ,e,bO e⟩
  ·obtain⟨q,hq,z⟩:=h
   rcases Ac.mp hq with y | y
   ·exact absurd (y▸z) e
   ·obtain⟨q',h1,h2,h3⟩:=ih ⟨q,y,z⟩
    exact⟨q',AV _ h1,h2,by rw[bE e];exact h3⟩
theorem yh:∀{kvs:List (Key×V)},(∀q∈kvs,∃x:Str,q.1=Av x)->∃ss:List Str,kvs.map (·.1)=ss.map Av
 | [],_=>⟨[],rfl⟩
 | p::r,h=>by
  obtain⟨x,hx⟩:=h p AZ
  obtain⟨ss,e⟩:=yh λq hq=>h q (AV _ hq)
  exact⟨x::ss,by rw[Ap,Ap,hx,e]⟩
theorem mr:∀c,c<26->Ci (97+c)=[65+c]:=by decide+kernel
theorem Ua{l:List Nat}(h:∀c∈l,c<26)(h3:l.length<=3):Er (G3 ⟨(l.map (97+ ·)).toArray⟩).length=false:=by
 have e:(G3 ⟨(l.map (97+ ·)).toArray⟩).length=l.length:=by
  match l,h,h3 with
  | [],_,_=>rfl
  | [a],h,_=>
   show(#[(Ci (97+a)).toArray].flatten).size=1
   rw[mr a (h a (by simp))];rfl
  | [a,b],h,_=>
   show(#[(Ci (97+a)).toArray,(Ci (97+b)).toArray].flatten).size=2
   rw[mr a (h a (by simp)),mr b (h b (by simp))];rfl
  | [a,b,c],h,_=>
   show(#[(Ci (97+a)).toArray,(Ci (97+b)).toArray,(Ci (97+c)).toArray].flatten).size=3
   rw[mr a (h a (by simp)),mr b (h b (by simp)),mr c (h c (by simp))];rfl
  | _::_::_::_::_,_,h3=>simp at h3
 rw[e]
 have hs:sizeLine=16777216:=Ee
 unfold Er
 exact decide_eq_false (by omega)
end L2
namespace My
open PySem L2
def top(i:Nat):Stmt:=PySem.Challenge.pw_figurejudge_k35_signs_at_sums.main.body.getD i (.Pass ⟨0,0,0,0⟩)
abbrev eP:Stmt:=top 1
abbrev c_:Stmt:=top 2
abbrev eQ:Stmt:=top 4
abbrev bQ:Stmt:=top 6
abbrev eS:Stmt:=top 7
abbrev da:Stmt:=top 11
abbrev dF:Stmt:=top 12
abbrev cQ:Stmt:=top 13
abbrev cE:Stmt:=top 14
abbrev dG:Stmt:=top 15
abbrev cR:Stmt:=top 16
abbrev eU:Stmt:=top 17
abbrev ft:Stmt:=top 19
abbrev g_:Stmt:=top 20
abbrev dc:Stmt:=top 21
abbrev fE:Stmt:=top 22
abbrev fF:Stmt:=top 23
abbrev cu:Stmt:=top 24
abbrev cv:Stmt:=top 25
abbrev eV:Stmt:=top 26
abbrev fI:Stmt:=top 27
abbrev bB:Stmt:=top 28
abbrev bZ:Stmt:=top 29
abbrev dR:Stmt:=top 30
abbrev cK:Stmt:=top 31
abbrev g0:Stmt:=top 33
abbrev iS:Stmt:=top 34
abbrev hV:Stmt:=top 35
abbrev fg:Stmt:=top 36
abbrev h_:Stmt:=top 37
abbrev gg:Stmt:=top 38
abbrev fh:Stmt:=top 39
abbrev g5:Stmt:=top 40
abbrev eE:Stmt:=top 42
abbrev ia:Stmt:=top 43
abbrev fS:Stmt:=top 44
abbrev iT:Stmt:=top 45
abbrev dv:Stmt:=top 46
abbrev fu:Stmt:=top 47
abbrev jL:Stmt:=top 48
set_option genInjectivity false in
set_option genSizeOf false in
structure bR where
 ix:Addr
 js:Aw
 gH:Addr
 iU:Aw
 iy:Addr
 jt:Aw
 iz:Addr
 gJ:Aw
 yi:Addr
 iA:Addr
 ju:Aw
 dS:Addr
 eX:Aw
 fU:Addr
 gK:Aw
 dH:Addr
 eJ:Aw
 d_:Addr
 fw:Aw
 fV:Addr
 gL:Aw
 dI:Addr
 eK:Aw
 fW:Addr
 gM:Aw
 jM:Addr
 lN:Aw
 ng:Addr
 oX:Aw
 gN:Addr
 iV:Aw
 jv:Addr
 mB:Aw
 jw:Addr
 mC:Aw
 gP:Addr
 iW:Aw
 n_:Addr
 dU:Addr
 gQ:Addr
 iX:Aw
 n8:Addr
 dW:Addr
 fX:Addr
 gR:Aw
 gC:Addr
 iB:Aw
 cw:Addr
 iY:Aw
 de:Addr
 bT:Addr
 gi:Addr
 iC:Aw
 mD:Addr
 dA:Addr
 gT:Addr
 iZ:Aw
 jj:Addr
 iD:Aw
 LZ:Addr
 nh:Addr
 oY:Aw
 ni:Addr
 oZ:Aw
 kX:Addr
 nj:Aw
 kY:Addr
 nq:Aw
 kZ:Addr
 nr:Aw
 p8:Addr
 qP:Aw
 k_:Addr
 nt:Aw
 nu:Addr
 o_:Aw
 i8:Addr
 ke:Aw
 lh:Addr
 ny:Aw
 fY:Addr
 gj:Aw
 nz:Addr
 o3:Aw
 p9:Addr
 qQ:Aw
 IT:Addr
 fJ:Addr
 nA:Addr
 o4:Aw
 J7:Addr
 L_:Aw
structure Txt (K:AD)(mg:Str->Option Value)(a:bR):Prop where
 yj:cJ K "figures_of" "figures_of" eP a.ix a.js
 yk:mg "figures_of"=some (.ref a.ix)
 yl:AK K (.ref a.ix)=true
 ym:Binds K a.js ["base","number"] []
 wb:cJ K "all_letters" "all_letters" c_ a.gH a.iU
 oa:mg "all_letters"=some (.ref a.gH)
 og:AK K (.ref a.gH)=true
 oh:Binds K a.iU ["base","many"] []
 yn:cJ K "room_after" "room_after" eQ a.iy a.jt
 yo:mg "room_after"=some (.ref a.iy)
 yp:AK K (.ref a.iy)=true
 yq:Binds K a.jt ["moves","room","figures"] []
 yr:jr K "grown_from" "grown_from" bQ a.iz a.gJ (.ref a.yi)
 yt:mg "grown_from"=some (.ref a.iz)
 yu:AK K (.ref a.iz)=true
 yv:Binds K a.gJ ["first","many","onward","is_yes","most"] []
 Ub:∃t,Binds K a.gJ ["first","many","onward","is_yes","most"] [.int 2000 t]
 yw:cJ K "machine_of" "machine_of" eS a.iA a.ju
 yx:mg "machine_of"=some (.ref a.iA)
 yy:AK K (.ref a.iA)=true
 yz:Binds K a.ju ["base","names","growth","most"] []
 wc:cJ K "inner_parts" "inner_parts" da a.dS a.eX
 oi:mg "inner_parts"=some (.ref a.dS)
 oj:AK K (.ref a.dS)=true
 om:Binds K a.eX ["saying"] []
 yA:cJ K "term_names" "term_names" dF a.fU a.gK
 yB:mg "term_names"=some (.ref a.fU)
 yC:AK K (.ref a.fU)=true
 yD:Binds K a.gK ["saying"] []
 qR:cJ K "parts_in_order" "parts_in_order" cQ a.dH a.eJ
 qS:mg "parts_in_order"=some (.ref a.dH)
 qT:AK K (.ref a.dH)=true
 qU:Binds K a.eJ ["saying"] []
 sk:cJ K "told_of_parts" "told_of_parts" cE a.d_ a.fw
 sr:mg "told_of_parts"=some (.ref a.d_)
 sv:AK K (.ref a.d_)=true
 sx:Binds K a.fw ["told","place","saying"] []
 yE:cJ K "names_over" "names_over" dG a.fV a.gL
 yF:mg "names_over"=some (.ref a.fV)
 yG:AK K (.ref a.fV)=true
 yH:Binds K a.gL ["saying","inner"] []
 qV:cJ K "names_by_place" "names_by_place" cR a.dI a.eK
 qW:mg "names_by_place"=some (.ref a.dI)
 qX:AK K (.ref a.dI)=true
 qY:Binds K a.eK ["saying"] []
 yI:cJ K "free_names" "free_names" eU a.fW a.gM
 yJ:mg "free_names"=some (.ref a.fW)
 yK:AK K (.ref a.fW)=true
 yL:Binds K a.gM ["saying"] []
 J8:cJ K "times_of" "times_of" ft a.jM a.lN
 J9:mg "times_of"=some (.ref a.jM)
 J':AK K (.ref a.jM)=true
 Ka:Binds K a.lN ["term","names"] []
 Oe:cJ K "sum_of" "sum_of" g_ a.ng a.oX
 Og:mg "sum_of"=some (.ref a.ng)
 Oh:AK K (.ref a.ng)=true
 Oi:Binds K a.oX ["letter","times"] []
 wg:cJ K "letter_sums" "letter_sums" dc a.gN a.iV
 wj:mg "letter_sums"=some (.ref a.gN)
 wk:AK K (.ref a.gN)=true
 wm:Binds K a.iV ["base","times"] []
 R3:cJ K "differences" "differences" fE a.jv a.mB
 R4:mg "differences"=some (.ref a.jv)
 R5:AK K (.ref a.jv)=true
 R6:Binds K a.mB ["saying","names"] []
 R7:cJ K "same_onward" "same_onward" fF a.jw a.mC
 R8:mg "same_onward"=some (.ref a.jw)
 R9:AK K (.ref a.jw)=true
 R':Binds K a.mC ["base","room","total"] []
 wq:jr K "same_growth" "same_growth" cu a.gP a.iW (.ref a.n_)
 Sb:B4 K a.n_ a.dU=true
 wt:mg "same_growth"=some (.ref a.gP)
 wu:AK K (.ref a.gP)=true
 wx:Binds K a.iW ["base","names","saying"] []
 wy:jr K "less_growth" "less_growth" cv a.gQ a.iX (.ref a.n8)
 Sd:B4 K a.n8 a.dW=true
 wz:mg "less_growth"=some (.ref a.gQ)
 wA:AK K (.ref a.gQ)=true
 wB:Binds K a.iX ["base","names","saying"] []
 yM:cJ K "row_onward" "row_onward" eV a.fX a.gR
 yN:mg "row_onward"=some (.ref a.fX)
 yO:AK K (.ref a.fX)=true
 yP:Binds K a.gR ["base","row","pair","total"] []
 Hk:cJ K "sign_from" "sign_from" fI a.gC a.iB
 Hl:mg "sign_from"=some (.ref a.gC)
 Hm:AK K (.ref a.gC)=true
 Hn:Binds K a.iB ["base","row","pair"] []
 wC:jr K "sign_growth" "sign_growth" bB a.cw a.iY (.ref a.de)
 oq:B4 K a.de a.bT=true
 wD:mg "sign_growth"=some (.ref a.cw)
 wF:AK K (.ref a.cw)=true
 wG:Binds K a.iY ["world","names","saying"] []
 ub:jr K "alike_growth" "alike_growth" bZ a.gi a.iC (.ref a.mD)
 Rz:B4 K a.mD a.dA=true
 uc:mg "alike_growth"=some (.ref a.gi)
 ud:AK K (.ref a.gi)=true
 uf:Binds K a.iC ["world","names","saying"] []
 wH:cJ K "atom_growth" "atom_growth" dR a.gT a.iZ
 wI:mg "atom_growth"=some (.ref a.gT)
 wJ:AK K (.ref a.gT)=true
 wK:Binds K a.iZ ["world","names","saying"] []
 L0:jr K "atom_of" "atom_of" cK a.jj a.iD (.ref a.LZ)
 lj:mg "atom_of"=some (.ref a.jj)
 lA:AK K (.ref a.jj)=true
 o5:Binds K a.iD ["world","saying","most"] []
 L3:∃t,Binds K a.iD ["world","saying","most"] [.int 2000 t]
 Oj:cJ K "_law_feed" "_law_feed" g0 a.nh a.oY
 Ol:mg "_law_feed"=some (.ref a.nh)
 Om:AK K (.ref a.nh)=true
 Oo:Binds K a.oY ["_law_script"] []
 Oq:cJ K "_law_draw" "_law_draw" iS a.ni a.oZ
 bo:mg "_law_draw"=some (.ref a.ni)
 bp:AK K (.ref a.ni)=true
 bq:Binds K a.oZ ["_law_feed_here","_law_many"] []
 L4:cJ K "_law_after" "_law_after" hV a.kX a.nj
 L5:mg "_law_after"=some (.ref a.kX)
 L6:AK K (.ref a.kX)=true
 L7:Binds K a.nj ["_law_word"] []
 L8:cJ K "_law_names" "_law_names" fg a.kY a.nq
 vC:mg "_law_names"=some (.ref a.kY)
 vD:AK K (.ref a.kY)=true
 vE:Binds K a.nq ["_law_feed_here","_law_many"] []
 L9:cJ K "_law_rings" "_law_rings" h_ a.kZ a.nr
 vF:mg "_law_rings"=some (.ref a.kZ)
 vG:AK K (.ref a.kZ)=true
 vH:Binds K a.nr ["_law_moves"] []
 RA:cJ K "_law_row" "_law_row" gg a.p8 a.qP
 RB:mg "_law_row"=some (.ref a.p8)
 RC:AK K (.ref a.p8)=true
 RD:Binds K a.qP ["_law_feed_here","_law_base"] []
 Ma:cJ K "_law_world" "_law_world" fh a.k_ a.nt
 Mb:mg "_law_world"=some (.ref a.k_)
 Mc:AK K (.ref a.k_)=true
 Md:Binds K a.nt ["_law_feed_here"] []
 Ot:cJ K "_law_term" "_law_term" g5 a.nu a.o_
 Ou:mg "_law_term"=some (.ref a.nu)
 Ov:AK K (.ref a.nu)=true
 Ow:Binds K a.o_ ["_law_feed_here","_law_names_here"] []
 Ho:cJ K "_law_letters" "_law_letters" eE a.i8 a.ke
 Hq:mg "_law_letters"=some (.ref a.i8)
 Hr:AK K (.ref a.i8)=true
 Hs:Binds K a.ke ["_law_base","_law_many"] []
 Me:cJ K "_law_grown" "_law_grown" ia a.lh a.ny
 Mf:mg "_law_grown"=some (.ref a.lh)
 Mg:AK K (.ref a.lh)=true
 Mh:Binds K a.ny ["_law_first","_law_many","_law_onward","_law_most"] []
 Mi:cJ K "_law_alike" "_law_alike" fS a.fY a.gj
 o7:mg "_law_alike"=some (.ref a.fY)
 o8:AK K (.ref a.fY)=true
 o9:Binds K a.gj ["_law_found","_law_due_here"] []
 Ox:cJ K "_law_onto" "_law_onto" iT a.nz a.o3
 Oy:mg "_law_onto"=some (.ref a.nz)
 Oz:AK K (.ref a.nz)=true
 OA:Binds K a.o3 ["_law_base","_law_row_here","_law_room","_law_number"] []
 RE:jr K "_law_due" "_law_due" dv a.p9 a.qQ (.ref a.IT)
 RF:B4 K a.IT a.fJ=true
 RG:mg "_law_due"=some (.ref a.p9)
 RH:AK K (.ref a.p9)=true
 RI:Binds K a.qQ ["_law_base","_law_row_here","_law_term_here","_law_sign","_law_most"] []
 OB:cJ K "_law_wide" "_law_wide" fu a.nA a.o4
 OC:mg "_law_wide"=some (.ref a.nA)
 OD:AK K (.ref a.nA)=true
 OE:Binds K a.o4 ["_law_feed_here","_law_base"] []
 Xe:cJ K "law" "law" jL a.J7 a.L_
 ag8:mg "law"=some (.ref a.J7)
 cZ:mg "range"=none
 b_:mg "tuple"=none
 cF:mg "len"=none
 sC:mg "list"=none
 Mj:mg "dict"=none
 PQ:mg "sum"=none
 Ht:mg "enumerate"=none
 Kb:mg "reversed"=none
 qZ:mg "sorted"=none
 PR:mg "abs"=none
 cq:mg "isinstance"=none
 yQ:mg "bool"=none
 Xf:mg "set"=none
 Kc:mg "zip"=none
 Xg:mg "min"=none
 Xh:mg "all"=none
 PU:mg "int"=none
 tne01:a.dU≠a.dW
 tne02:a.dU≠a.bT
 tne03:a.dU≠a.dA
 tne04:a.dU≠a.fJ
 tne12:a.dW≠a.bT
 tne13:a.dW≠a.dA
 tne14:a.dW≠a.fJ
 tne23:a.bT≠a.dA
 tne24:a.bT≠a.fJ
 tne34:a.dA≠a.fJ
theorem IU{c:TT}{tb:TS}{D:Ends}{σ:St}{H:Hp}(W:Nat->St->Hp->Prop)(h0:∃m,W m σ H)
  (hs:∀m σ H,W m σ H->c σ H λb H1=>if b=true then tb {D with nx:=λσ' H'=>∃m',m'<m/\W m' σ' H',ct:=λσ' H'=>∃m',m'<m/\W m' σ' H',bk:=D.nx} σ H1 else D.nx σ H1)
  (mono:∀σ H Q Q',(∀b H1,Q b H1->Q' b H1)->c σ H Q->c σ H Q'):lT c tb D σ H:=by
 refine⟨W,h0,λm σ H w=>mono σ H _ _ (λb H1 q=>?_) (hs m σ H w)⟩
 cases b with
 | true=>exact⟨_,λσ' H' p=>p,q⟩
 | false=>exact q
theorem iE{H:Hp}{D:Addr}{kvs:List (Key×V)}{x:Str}{v:V}(h:Rd H D (.dK kvs))(e:bt kvs (Av x)=some v):iM H D (.str x) (some v):=.inl ⟨kvs,Av x,h,rfl,e.symm⟩
def fd(L:Addr)(n sd:Int):List (Key×V):=[(Av ("left":Str),.ref L),(Av ("number":Str),.int n),(Av ("seed":Str),.int sd)]
theorem IV(L:Addr)(n sd:Int):bt (fd L n sd) (Av ("left":Str))=some (.ref L):=bO rfl
theorem jk(L:Addr)(n sd:Int):bt (fd L n sd) (Av ("number":Str))=some (.int n):=by
 unfold fd
 rw[bE (show ¬((Av ("left":Str):Key)=Av ("number":Str)) by decide+kernel),bO rfl]
theorem ug(L:Addr)(n sd:Int):bt (fd L n sd) (Av ("seed":Str))=some (.int sd):=by
 unfold fd
 rw[bE (show ¬((Av ("left":Str):Key)=Av ("seed":Str)) by decide+kernel),bE (show ¬((Av ("number":Str):Key)=Av ("seed":Str)) by decide+kernel),bO rfl]
theorem IW(L:Addr)(n sd v:Int):putK (fd L n sd) (Av ("number":Str)) (.int v)=fd L v sd:=by
 unfold putK fd
 have a1:¬((Av ("left":Str):Key)=Av ("number":Str)):=by decide+kernel
 have a2:¬((Av ("seed":Str):Key)=Av ("number":Str)):=by decide+kernel
 simp only[Cr,List.any_nil,Ap,ED,a1,a2,if_false,if_true,decide_true,decide_false,HP,Bool.or_true]
theorem RJ(L:Addr)(n sd v:Int):putK (fd L n sd) (Av ("seed":Str)) (.int v)=fd L n v:=by
 unfold putK fd
 have a1:¬((Av ("left":Str):Key)=Av ("seed":Str)):=by decide+kernel
 have a2:¬((Av ("number":Str):Key)=Av ("seed":Str)):=by decide+kernel
 simp only[Cr,List.any_nil,Ap,ED,a1,a2,if_false,if_true,decide_true,decide_false,HP,Bool.or_true]
structure bK (H:Hp)(F L:Addr):Prop where
 ex:∃(ms:List Int) (n sd:Int),H F=some (.dK (fd L n sd))/\H L=some (.lst (ms.map V.int))/\0<=n/\(∀m∈ms,0<=m)/\0<=sd/\sd<2147483648
theorem bK.same{H H':Hp}{F L:Addr}(h:bK H F L)(s:Same H H'):bK H' F L:=by
 obtain⟨ms,n,sd,a,b,c⟩:=h.ex
 exact⟨ms,n,sd,s _ _ a,s _ _ b,c⟩
def Uc:Sp:=λvs H Q _=>∃(F L:Addr) (m:Nat),vs=[.ref F,.int m]/\bK H F L/\0<m/\m<2 ^ 1000/\∀(r:Nat) (H':Hp),r<m->cm F L H H'->bK H' F L->Q (.int (r:Nat)) H'
section
variable{P:Ak}{w:World}{K:AD}{mg:Str->Option Value}{base:Heap}
theorem lC:aO ["_law_feed_here","_law_many","_law_found","_law_one","_law_two"] ["_law_feed_here","_law_many"] (ah iS):=⟨rfl,rfl,rfl,by decide+kernel,rfl,by decide+kernel,by decide+kernel⟩
theorem ib{a:bR}(T:Txt K mg a):aR P w K mg base bj 1 a.ni a.oZ ["_law_feed_here","_law_many"] Uc:=by
 refine T.Oq.ok lC (λvs H Q E h=>?_) (λcdv A outer s H vs Q E hr h=>?_)
 ·obtain⟨F,L,m,rfl,_⟩:=h
  rfl
 ·obtain⟨F,L,many,rfl,hf,hm0,hm1,k⟩:=h
  refine⟨_,(ai (fN A0 (PW.pt (KJ (bx ij (dr (ck hr) (pv 0) bH (λ_ _=>rfl)) aj (bD _)) (Ic (bx (S9 K hr.units) (dr (ck hr) (pv 0) bH (λ_ _=>rfl)) (cf ag) (bD _)))))
   (av (pU (ck hr) (pv 0) bH (xD Au GU GV K2 (dr (ck hr) (pv 0) bH (λ_ _=>rfl))) rfl)))
  (ai (dN (bx pS (dr (ck hr) (pv 0) bH (λ_ _=>rfl)) aj (bD _))
   (ai (ay (i:=2) lC.nd rfl (Ad rfl) (aV dQ (dr (ck hr) (pv 0) bH (λ_ _=>rfl)) (pv 1)))
   (ai (pU (ck hr) (pv 0) bH (aV iN (dr (ck hr) (pv 0) bH (λ_ _=>rfl)) (pv 1)) rfl)
   (av (aQ (pv 2)))))
   cp)
  (ai (ay (i:=3) lC.nd rfl (Ad rfl) (aV dQ (aV dX (aV jd (dr (ck hr) (pv 0) bH (λ_ _=>rfl)) aj) aj) aj))
  (ai (pU (ck hr) (pv 0) bH (aV dQ (aV dX (aV jd (pv 3) aj) aj) aj) rfl)
  (ai (ay (i:=4) lC.nd rfl (Ad rfl) (aV dQ (aV jd (dr (ck hr) (pv 0) bH (λ_ _=>rfl)) (dr (ck hr) (pv 0) bH (λ_ _=>rfl))) aj))
  (av (aQ (aV dQ (aV dX (aV jd (aV dQ (aV jd (pv 3) (pv 3)) aj) aj) (pv 4)) (pv 1))))))))),?_⟩
  obtain⟨ms0,n0,sd0,e0,l0,hn0,ZN,hs0,hs1⟩:=hf.ex
  have IX:F≠L:=fL e0 l0 (λz=>nomatch z)
  have put:∀{H':Hp} {kv:List (Key×V)},H' F=some (.dK kv)->kv.length=3->kv.length<sizeLine:=λ_ z=>by rw[z];decide
  refine IU (λm σ H'=>∃(ms:List Int) (n sd:Int),m=ms.length/\σ=[some (.ref F),some (.int (many:Nat)),none,none,none]/\cm F L H H'/\H' F=some (.dK (fd L n sd))/\H' L=some (.lst (ms.map V.int))/\0<=n/\(∀m∈ms,0<=m)/\0<=sd/\sd<2147483648)
   ⟨_,ms0,n0,sd0,rfl,rfl,λb o e _ _=>e,e0,l0,hn0,ZN,hs0,hs1⟩ ?_ ?_
  ·rintro m σ H1 ⟨ms,n,sd,rfl,rfl,k1,e1,l1,hn,hms,hs,hs'⟩
   have OG:∀kv:List (Key×V),kv.length=3->kv.length<sizeLine:=λkv z=>by rw[z];decide
   refine⟨_,rfl,F,.int n,rfl,iE (.inl e1) (jk ..),rfl,_,rfl,?_⟩
   refine cW (λhz=>?_) (λhz=>?_)
   ·have hz':n=0:=V.int.inj (of_decide_eq_true hz)
    subst hz'
    refine⟨_,rfl,F,.ref L,rfl,iE (.inl e1) (IV ..),by decide,λE hE=>?_⟩
    have sE:=Same.new (o:=.lst []) hE
    have e2:=sE _ _ e1
    have l2:=sE _ _ l1
    have k2:cm F L H (upd H1 E (.lst [])):=k1.trans sE.kb2
    refine⟨⟨.lst (ms.map .int),.lst [],pX (.of l2) (oO ms),pX (.of af) fR,rfl,rfl,?dep,_,rfl,?_⟩,.lst (ms.map .int),.lst [],pX (.of l2) (oO ms),pX (.of af) fR,.inr ⟨_,_,rfl,rfl⟩⟩
    case dep=>rw[Dt.dep,vd];decide
    have eb:(if true=true then !(Dt.lst (ms.map .int)).beq (.lst []) else(Dt.lst (ms.map .int)).beq (.lst []))=decide (ms≠[]):=by
     rw[if_pos rfl,Dt.beq]
     cases ms with
     | nil=>simp[Dt.fk]
     | cons y ys=>simp[Dt.fk]
    rw[eb]
    generalize upd H1 E (.lst [])=H2 at e2 l2 k2 ⊢
    refine cW (λhne=>?_) (λhem=>?_)
    ·have hne':ms≠[]:=of_decide_eq_true hne
     have hl:0<ms.length:=List.length_pos_iff.mpr hne'
     obtain⟨x,hx⟩:∃x,ms[ms.length-1]? =some x:=⟨_,As (by omega)⟩
     have hx0:=hms x (AL hx)
     refine⟨_,rfl,F,.ref L,rfl,iE (.inl e2) (IV ..),.inl ⟨rfl,_,.of l2⟩,L,_,.int x,rfl,rfl,l2,by rw[AB,AW,hx];rfl,?_⟩
     have e3:(upd H2 L (.lst (ms.map V.int).dropLast)) F=some (.dK (fd L 0 sd)):=by rw[ao IX];exact e2
     refine⟨_,rfl,F,_,rfl,iq.k (k:=Av ("number":Str)) e3 (OG _ rfl),?_⟩
     refine⟨ms.dropLast.length,by rw[Gi];omega,ms.dropLast,x,sd,rfl,rfl,?_,?_,?_,hx0,λm hm=>hms m (List.dropLast_subset _ hm),hs,hs'⟩
     ·exact k2.trans ((KB.r KB.write).trans (KB.l KB.write))
     ·rw[af,IW]
     ·rw[ao IX.symm,af,List.map_dropLast]
    ·
     refine⟨_,rfl,F,.int 0,rfl,iE (.inl e2) (jk ..),_,_,rfl,rfl,_,rfl,?_⟩
     refine cW (λz=>absurd (of_decide_eq_true z) (by decide)) (λ_=>?_)
     refine⟨_,rfl,F,.int sd,rfl,iE (.inl e2) (ug ..),_,_,rfl,rfl,.inr (by constructor<;>decide),_,_,rfl,rfl,_,_,rfl,rfl,cpos (by decide),?_⟩
     have o0:0<=(sd*48271+7919) % 2147483647:=Dz _ (by decide)
     have o1:(sd*48271+7919) % 2147483647<2147483647:=DB _ (by decide)
     dsimp only[aJ]
     generalize (sd*48271+7919) % 2147483647=one at o0 o1 ⊢
     refine⟨_,rfl,_,_,rfl,rfl,.inr (by constructor<;>decide),_,_,rfl,rfl,_,_,rfl,rfl,cpos (by decide),_,rfl,F,_,rfl,iq.k (k:=Av ("seed":Str)) e2 (OG _ rfl),?_⟩
     have t0:0<=(one*40692+104729) % 2147483399:=Dz _ (by decide)
     have t1:(one*40692+104729) % 2147483399<2147483399:=DB _ (by decide)
     rw[RJ]
     generalize (one*40692+104729) % 2147483399=s2 at t0 t1 ⊢
     have e3:(upd H2 F (.dK (fd L 0 s2))) F=some (.dK (fd L 0 s2)):=af
     have l3:(upd H2 F (.dK (fd L 0 s2))) L=some (.lst (ms.map V.int)):=by rw[ao IX.symm];exact l2
     have k3:cm F L H (upd H2 F (.dK (fd L 0 s2))):=k2.trans (KB.l KB.write)
     generalize upd H2 F (.dK (fd L 0 s2))=H3 at e3 l3 k3 ⊢
     refine⟨_,rfl,F,.int s2,rfl,iE (.inl e3) (ug ..),_,rfl,F,.int s2,rfl,iE (.inl e3) (ug ..),_,_,rfl,rfl,.inl (by constructor<;>omega),_,_,rfl,rfl,cpos (by decide),?_⟩
     refine⟨_,rfl,_,rfl,_,_,rfl,rfl,.inl (by constructor<;>omega),_,_,rfl,rfl,cpos (by decide),_,_,rfl,rfl,.inr (by constructor<;>decide),_,rfl,_,_,rfl,rfl,_,rfl,_,_,rfl,rfl,cpos (by omega),?_⟩
     have f0:0<=(one*one % 2147483629*2147483563+s2*s2 % 2147483563) % (many:Int):=Dz _ (by omega)
     have f1:(one*one % 2147483629*2147483563+s2*s2 % 2147483563) % (many:Int)<(many:Int):=DB _ (by omega)
     obtain⟨r,hr'⟩:∃r:Nat,(one*one % 2147483629*2147483563+s2*s2 % 2147483563) % (many:Int)=(r:Int):=⟨_,(Dk f0).symm⟩
     have:=k r H3 (by omega) k3 ⟨ms,0,s2,e3,l3,Int.le_refl _,hms,t0,by omega⟩
     rw[<-hr'] at this
     exact this
   ·
    have hn0':0<n:=by
     have:n≠0:=λz=>hz (by rw[z];simp)
     omega
    refine dP ⟨_,rfl,F,.int n,rfl,iE (.inl e1) (jk ..),_,_,rfl,rfl,_,rfl,?_⟩
    refine cW (λ_=>?_) (λz=>absurd (decide_eq_true hn0') z)
    refine⟨_,rfl,F,.int n,rfl,iE (.inl e1) (jk ..),_,rfl,_,_,rfl,rfl,cpos (by omega),?_⟩
    refine⟨_,rfl,F,.int n,rfl,iE (.inl e1) (jk ..),_,rfl,_,_,rfl,rfl,⟨by omega,?log⟩,_,rfl,F,_,rfl,iq.k (k:=Av ("number":Str)) e1 (OG _ rfl),?_⟩
    case log=>
     rw[DC,Nat.log2_lt (by omega)]
     exact AY hm1 (BR (by decide) (by decide))
    refine⟨_,rfl,?_⟩
    have f0:0<=n % (many:Int):=Dz _ (by omega)
    have f1:n % (many:Int)<(many:Int):=DB _ (by omega)
    obtain⟨r,hr'⟩:∃r:Nat,n % (many:Int)=(r:Int):=⟨_,(Dk f0).symm⟩
    rw[IW]
    have:=k r (upd H1 F (.dK (fd L (n / (many:Int)) sd))) (by omega) (k1.trans (KB.l KB.write)) ⟨ms,n / (many:Int),sd,af,by rw[ao IX.symm];exact l1,Int.ediv_nonneg hn (by omega),hms,hs,hs'⟩
    rw[<-hr'] at this
    exact this
  ·rintro σ H Q Q' hQ ⟨v,e1,a,y,e2,e3,e4,b,e5,q⟩
   refine⟨v,e1,a,y,e2,e3,e4,b,e5,?_⟩
   revert q
   cases b with
   | false=>exact λq=>hQ _ _ q
   | true=>
    rintro⟨v,e1,a,y,e2,e3,z,q⟩
    refine⟨v,e1,a,y,e2,e3,z,λp hp=>?_⟩
    obtain⟨⟨d,d',a1,a2,a3,a4,a5,b,a6,q⟩,z2⟩:=q p hp
    exact⟨⟨d,d',a1,a2,a3,a4,a5,b,a6,hQ _ _ q⟩,z2⟩
def Ud(K:AD):Sp:=λvs H Q _=>∃(a:Addr) (ns:List Int),vs=[.ref a]/\bz K H a (ns.map V.int)/\ns.length<=63/\∀(F L:Addr) (H':Hp),H F=none->H L=none->Same H H'->bK H' F L->Q (.ref F) H'
theorem RK(ms:List Int)(n:Nat):j4 (ms.map V.int) none (some (n:Int))=(ms.take n).map V.int:=by
 unfold j4
 rw[show HT.br (ms.map V.int).length 0 none=0 from rfl,HT.Im]
 rw[Gs,AB,Ha,<-List.map_take]
 congr 1
 by_cases h:n<=ms.length
 ·rw[Nat.min_eq_left h]
 ·rw[Nat.min_eq_right (by omega),Bp (AM _),Bp (by omega)]
theorem OH(L:Addr)(n sd:Int):bP [] (fd L n sd)=fd L n sd:=by
 have a1:¬((Av ("left":Str):Key)=Av ("number":Str)):=by decide+kernel
 have a2:¬((Av ("left":Str):Key)=Av ("seed":Str)):=by decide+kernel
 have a3:¬((Av ("number":Str):Key)=Av ("seed":Str)):=by decide+kernel
 unfold bP fd
 simp only[List.foldl_cons,List.foldl_nil]
 rw[mT _ qC]
 rw[mT _ (show bt ([]++[((Av ("left":Str):Key),V.ref L)]) (Av ("number":Str))=none from(bE a1).trans qC)]
 rw[mT _ (show bt ([]++[((Av ("left":Str):Key),V.ref L)]++[((Av ("number":Str):Key),V.int n)]) (Av ("seed":Str))=none from(bE a2).trans ((bE a3).trans qC))]
 rfl
theorem jm:aO ["_law_script","_law_seed","_law_cell","_law_great"] ["_law_script"] (ah g0):=⟨rfl,rfl,rfl,by decide+kernel,rfl,by decide+kernel,by decide+kernel⟩
theorem Mk{a:bR}(T:Txt K mg a):aR P w K mg base bj 1 a.nh a.oY ["_law_script"] (Ud K):=by
 refine T.Oj.ok jm (λvs H Q E h=>?_) (λcdv A outer s H vs Q E hr h=>?_)
 ·obtain⟨sa,ns,rfl,_⟩:=h
  rfl
 ·obtain⟨sa,ns,rfl,hS,hns,k⟩:=h
  refine⟨_,(ai (ay (i:=1) jm.nd rfl (Ad rfl) aj)
  (ai (dg A0 rfl (cH (mS (xQ K) (pv 0) hG (jR aj))) (aH (i:=2) jm.nd rfl (Ad rfl))
   (av (ay (i:=1) jm.nd rfl (Ad rfl) (aV dQ (aV dX (aV jd (pv 1) aj) (pv 2)) aj))))
  (ai (gc (i:=3) (aG.mk' (esc:=ah g0) (N:=["_law_script","_law_seed","_law_cell","_law_great"]) (own:=["_law_cell"]) (aI:=[]) (bJ:=[]) rfl rfl (by decide+kernel)) rfl (cH (mS (xQ K) (pv 0) hG (jR aj))) (λ_ _ _ _=>(aH (i:=0) (show A3 (["_law_cell"]:List Str) by decide+kernel) rfl (Ad rfl))) (λ_ _ _ _=>(qE (bx WT (aL xA (by rfl) T.PR K' (ae (pv 0) ag)) (aV Sw aj aj) (bD _)))) (λ_ _ _ _=>(aL xA (by rfl) T.PR K' (ae (pv 0) ag))) jm.nd rfl rfl)
  (av (aQ (Iw (j7 bH (Rg K (pv 3) hG hG (jR (xk rF aj))) (j7 bH aj (j7 bH (pv 1) tS))) rfl rfl (λz=>nomatch z) (by decide))))))),?_⟩
  have ec:j4 (ns.map V.int) none (some (63:Int))=(ns.take 63).map V.int:=by rw[show(some (63:Int))=some ((63:Nat):Int) from rfl,RK]
  dsimp only[lJ,xx,tC,aJ]
  refine⟨_,rfl,_,rfl,sa,_,rfl,hS,λp hp=>?_⟩
  rw[ec]
  have sp:=Same.new (o:=.lst ((ns.take 63).map V.int)) hp
  refine⟨p,rfl,⟨_,.of af⟩,iK (xs:=(ns.take 63).map V.int) (λi σ H'=>∃(sd:Int) (v2:Option V),σ=[some (.ref sa),some (.int sd),v2,none]/\H'=upd H p (.lst ((ns.take 63).map V.int))/\0<=sd/\sd<2147483648)
   ⟨7919,none,rfl,rfl,by decide,by decide⟩ (λi σ H' _ ⟨_,_,_,e,_⟩=>by rw[e];exact .of af) ?_ ?_⟩
  ·rintro i x σ H1 hx ⟨sd,v2,rfl,rfl,h0,h1⟩
   obtain⟨c,rfl,_⟩:=iO hx
   refine⟨_,rfl,_,_,rfl,rfl,.inr (by constructor<;>decide),_,rfl,_,_,rfl,rfl,_,_,rfl,rfl,cpos (by decide),_,_,rfl,rfl,Dz _ (by decide),?_⟩
   have:=DB (sd*69621+c) (show(0:Int)<2147483647 by decide)
   omega
  rintro σ H1 ⟨sd,v2,rfl,rfl,h0,h1⟩
  generalize upd H p (.lst ((ns.take 63).map V.int))=H1 at sp ⊢
  refine⟨_,rfl,_,rfl,sa,_,rfl,sp.seq hS,λp2 hp2=>?_⟩
  rw[ec]
  have Ml:=Same.new (o:=.lst ((ns.take 63).map V.int)) hp2
  refine⟨p2,rfl,⟨_,.of af⟩,λC hC=>?_⟩
  have nC:p2≠C:=ak af hC
  have hC1:H1 C=none:=Ml.free hC
  refine dn (xs:=(ns.take 63).map V.int) (λi σ H'=>∃(v:Option V) (ms:List Int),σ=[v]/\Same H1 H'/\H' p2=some (.lst ((ns.take 63).map V.int))/\H' C=some (.lst (ms.map V.int))/\(∀m∈ms,0<=m)/\ms.length<=i)
   ⟨none,[],?sg,Ml.trans (Same.new hC),(Same.new hC) _ _ af,af,(λm hm=>by cases hm),AM _⟩ (λi σ H' _ ⟨_,_,_,_,h,_⟩=>.of h) ?_ ?_
  case sg=>rfl
  ·rintro i x σ H2 hx ⟨v,ms,rfl,s2,e2,c2,hms,lm⟩
   obtain⟨c,rfl,hc⟩:=iO hx
   have hi:i<(ns.take 63).length:=(AF.mp hc).1
   rw[Ao] at hi
   refine⟨_,rfl,c,rfl,_,_,rfl,rfl,⟨by decide,by decide,by decide⟩,_,_,rfl,rfl,_,rfl,?_⟩
   refine cW (λ_=>?_) (λ_=>⟨_,ms,rfl,s2,e2,c2,hms,by omega⟩)
   refine⟨_,rfl,c,rfl,_,c2,?_,_,ms++[if c<0 then-c else c],rfl,s2.kbn hC1 KB.write,by rw[ao nC];exact e2,?_,?_,?_⟩
   ·rw[AB];exact A7 (show ms.length<=100 by omega) (by decide)
   ·rw[af,AJ];rfl
   ·intro m hm
    rcases Ab.mp hm with hm | hm
    ·exact hms m hm
    ·rw[AR.mp hm];split<;>omega
   ·rw[AG];show ms.length+1<=i+1;omega
  rintro σ H2 ⟨v,ms,rfl,s2,e2,c2,hms,lm⟩
  have PV:=sp.trans s2
  refine λF hF=>?_
  have sF:=Same.new (o:=.dK []) hF
  refine⟨_,rfl,_,rfl,_,rfl,C,_,rfl,rfl,rfl,rfl,.of (sF _ _ c2),λL hL=>⟨_,rfl,?_⟩⟩
  have sL:=Same.new (o:=.lst (ms.map V.int).reverse) hL
  have IX:F≠L:=ak af hL
  refine⟨sL _ _ af,fd L 0 sd,rfl,(by show 3<=15;decide),?_⟩
  rw[OH]
  refine k F L _ (PV.free hF) ((PV.trans sF).free hL) (((PV.trans sF).trans sL).kbn (PV.free hF) KB.write) ⟨ms.reverse,0,sd,af,?_,Int.le_refl _,λm hm=>hms m (DZ.mp hm),h0,h1⟩
  rw[ao IX.symm,af,Fn]
def Lf(x y:V):Prop:=(∃i:Int,x=.int i/\y=.int i)∨(∃b:Bool,x=.bl b/\y=.bl b)∨∃s:Str,x=.str s/\y=.str s
def Tr(H:Hp):Nat->V->V->Prop
 | 0,_,_=>False
 | n+1,x,y=>Lf x y∨∃(p q:Addr) (xs ys:List V),x=.ref p/\y=.ref q/\((H p=some (.tup xs)/\H q=some (.tup ys))∨(H p=some (.lst xs)/\H q=some (.lst ys)))/\xs.length=ys.length/\xs.length<=3000/\∀(i:Nat) (u v:V),xs[i]? =some u->ys[i]? =some v->Tr H n u v
theorem Tr.keep{H H':Hp}(k:Same H H'):∀{n:Nat} {x y:V},Tr H n x y->Tr H' n x y
 | 0,_,_,h=>h
 | n+1,x,y,h=>by
  rcases h with h | ⟨p,q,xs,ys,e1,e2,h1,h3,h4,h5⟩
  ·exact .inl h
  ·exact .inr ⟨p,q,xs,ys,e1,e2,h1.imp (λz=>⟨k _ _ z.1,k _ _ z.2⟩) (λz=>⟨k _ _ z.1,k _ _ z.2⟩),h3,h4,λi u v hu hv=>(h5 i u v hu hv).keep k⟩
def qb(n:Nat):Sp:=λvs H Q _=>∃(x y:V),vs=[x,y]/\Tr H n x y/\∀H',Same H H'->Q (.bl true) H'
theorem IY(n:Nat):(BY n true).all id=true:=by
 rw[EU]
 intro b hb
 rw[List.eq_of_mem_replicate hb];rfl
theorem yR:A5 K (.type "list") (.type "tuple")=some false:=by rfl
theorem Mm:A5 K (.type "tuple") (.type "list")=some false:=by rfl
theorem Ue:A5 K (.type "int") (.type "tuple")=some false:=by rfl
theorem Ug:A5 K (.type "int") (.type "list")=some false:=by rfl
theorem Uh:A5 K (.type "bool") (.type "tuple")=some false:=by rfl
theorem Ui:A5 K (.type "bool") (.type "list")=some false:=by rfl
theorem Uj:A5 K (.type "bool") (.type "int")=some true:=by rfl
theorem Uk:A5 K (.type "str") (.type "tuple")=some false:=by rfl
theorem Ul:A5 K (.type "str") (.type "list")=some false:=by rfl
theorem Um:A5 K (.type "str") (.type "bool")=some false:=by rfl
theorem Uo:A5 K (.type "str") (.type "int")=some false:=by rfl
theorem Kd:aO ["_law_found","_law_due_here"] ["_law_found","_law_due_here"] (ah fS):=⟨rfl,rfl,rfl,by decide+kernel,rfl,by decide+kernel,by decide+kernel⟩
set_option maxHeartbeats 16000000 in
theorem Hu{a:bR}(T:Txt K mg a){n:Nat}(lD:aR P w K mg base bj (n+1) a.fY a.gj ["_law_found","_law_due_here"] (qb n)):aR P w K mg base bj (n+1+1) a.fY a.gj ["_law_found","_law_due_here"] (qb (n+1)):=by
 refine T.Mi.ok Kd (λvs H Q E h=>?_) (λcdv A outer s H vs Q E hr h=>?_)
 ·obtain⟨x,y,rfl,_⟩:=h
  rfl
 ·obtain⟨x,y,rfl,tr,k⟩:=h
  have jN:aP (n+1) _:=hr
  refine⟨_,(ai (dN (PW.pt (rD (j_ (aL (dq K) (by rfl) T.cq bX (ae (pv 1) (ae (fH (v:=.ty "tuple") rfl T.b_ bS rfl) ag))) (λ_=>rfl)) (oH (j_ (aL (dq K) (by rfl) T.cq bX (ae (pv 1) (ae (fH (v:=.ty "list") rfl T.sC pV rfl) ag))) (λ_=>rfl)))))
   (ai (dN (PW.pt (rD (bx pR (aL (dq K) (by rfl) T.cq bX (ae (pv 0) (ae (fH (v:=.ty "tuple") rfl T.b_ bS rfl) ag))) (aL (dq K) (by rfl) T.cq bX (ae (pv 1) (ae (fH (v:=.ty "tuple") rfl T.b_ bS rfl) ag))) (bD _)) (oH (bx pR (aL (dq K) (by rfl) T.cq bX (ae (pv 0) (ae (fH (v:=.ty "list") rfl T.sC pV rfl) ag))) (aL (dq K) (by rfl) T.cq bX (ae (pv 1) (ae (fH (v:=.ty "list") rfl T.sC pV rfl) ag))) (bD _)))))
    (av (aQ Jx))
    cp)
   (av (aQ (Sn (jQ ij (aL (bu K) (by rfl) T.cF bW (ae (pv 0) ag)) (aL (bu K) (by rfl) T.cF bW (ae (pv 1) ag)) (bD _)) (Sm (aL (Le K rfl) (by rfl) T.Xh S5 (ae (bN (aG.mk' (esc:=ah fS) (N:=["_law_found","_law_due_here"]) (own:=["_law_one","_law_other"]) (aI:=[]) (bJ:=[]) rfl rfl (by decide+kernel)) rfl (Rt rfl T.Kc (ae (pv 0) (ae (pv 1) ag))) (λ_ _ _ _=>(md K (n:=2) rfl (cD (aH (i:=0) (show A3 (["_law_one","_law_other"]:List Str) by decide+kernel) rfl (Ad rfl)) (cD (aH (i:=1) (show A3 (["_law_one","_law_other"]:List Str) by decide+kernel) rfl (Ad rfl)) iJ)))) (λ_ _ _ _=>a_) (λ_ _ _ _=>(aA lD jN rfl T.o7 T.o8 T.o9 .nil aK (ae (pv 0) (ae (pv 1) ag))))) ag)))))))
   cp)
  (ai (dN (PW.pt (rD (bx pR (aL (dq K) (by rfl) T.cq bX (ae (pv 0) (ae (fH (v:=.ty "bool") rfl T.yQ tU rfl) ag))) (aL (dq K) (by rfl) T.cq bX (ae (pv 1) (ae (fH (v:=.ty "bool") rfl T.yQ tU rfl) ag))) (bD _)) (oH (bx pR (aL (dq K) (by rfl) T.cq bX (ae (pv 0) (ae (fH (v:=.ty "int") rfl T.PU Lb rfl) ag))) (aL (dq K) (by rfl) T.cq bX (ae (pv 1) (ae (fH (v:=.ty "int") rfl T.PU Lb rfl) ag))) (bD _)))))
   (av (aQ Jx))
   cp)
  (av (aQ (jQ ij (pv 0) (pv 1) (bD _)))))),?_⟩
  have big:(10000:Nat)<=sizeLine:=by decide
  rcases tr with lf | ⟨p,q,xs,ys,rfl,rfl,⟨e1,e2⟩ | ⟨e1,e2⟩,hl,h3,sub⟩
  ·obtain⟨t,b1,b2,ty1,ty2,k1,k2,k3,k4,sc,eq⟩:∃(t:Value) (b1 b2:Bool),gs K H x t/\gs K H y t/\A5 K t (.type "tuple")=some false/\A5 K t (.type "list")=some false/\A5 K t (.type "bool")=some b1/\A5 K t (.type "int")=some b2/\Nt x y=true/\x=y:=by
    rcases lf with⟨i,rfl,rfl⟩ | ⟨b,rfl,rfl⟩ | ⟨z,rfl,rfl⟩
    ·exact⟨_,false,true,.int i,.int i,Ue,Ug,S3,S0,rfl,rfl⟩
    ·exact⟨_,true,true,.bl b,.bl b,Uh,Ui,Tv,Uj,rfl,rfl⟩
    ·exact⟨_,false,false,.str z,.str z,Uk,Ul,Um,Uo,rfl,rfl⟩
   refine aN λY hY=>?_
   refine⟨_,rfl,y,t,"tuple",false,rfl,ty2,k1,false,rfl,dP ?_⟩
   refine⟨_,rfl,y,t,"list",false,rfl,ty2,k2,false,rfl,dP ?_⟩
   subst hY
   dsimp only[jH]
   refine aN λY hY=>?_
   refine⟨_,rfl,x,t,"bool",b1,rfl,ty1,k3,_,rfl,y,t,"bool",b1,rfl,ty2,k3,rfl,_,rfl,?_⟩
   rw[show(!decide (V.bl b1=V.bl b1))=false by rw[decide_eq_true rfl];rfl]
   refine dP ?_
   refine⟨_,rfl,x,t,"int",b2,rfl,ty1,k4,_,rfl,y,t,"int",b2,rfl,ty2,k4,rfl,_,rfl,?_⟩
   rw[show(!decide (V.bl b2=V.bl b2))=false by rw[decide_eq_true rfl];rfl]
   refine dP ?_
   subst hY
   dsimp only[jH]
   refine⟨_,rfl,_,rfl,sc,?_⟩
   rw[decide_eq_true eq]
   exact k H (.refl _)
  ·refine aN λY hY=>?_
   refine⟨_,rfl,.ref q,_,"tuple",true,rfl,.tup e2,xP,true,rfl,iL ?_⟩
   refine iL ?_
   refine aN λY2 jn=>?_
   refine⟨_,rfl,.ref p,_,"tuple",true,rfl,.tup e1,xP,_,rfl,.ref q,_,"tuple",true,rfl,.tup e2,xP,rfl,_,rfl,dP ?_⟩
   refine⟨_,rfl,.ref p,_,"list",false,rfl,.tup e1,Mm,_,rfl,.ref q,_,"list",false,rfl,.tup e2,Mm,rfl,_,rfl,dP ?_⟩
   subst jn
   dsimp only[jH]
   refine⟨_,rfl,_,xs.length,rfl,.inr ⟨_,.of e1,rfl⟩,_,rfl,_,ys.length,rfl,.inr ⟨_,.of e2,rfl⟩,rfl,_,rfl,?_⟩
   rw[hl,show decide (V.int ((ys.length:Nat):Int)=V.int ((ys.length:Nat):Int))=true from decide_eq_true rfl]
   refine iL ?_
   refine .inr ⟨_,rfl,_,rfl,p,q,rfl,⟨_,.of e1⟩,⟨_,.of e2⟩,λC hC=>?_⟩
   refine LN (xs:=xs) (ys:=ys) (λi σ H'=>∃v0 v1:Option V,σ=[v0,v1]/\Same H H'/\H' C=some (.lst ((BY i true).map V.bl))) hl
    ⟨none,none,?sg,Same.new hC,af⟩ (by rintro i σ H' _ ⟨_,_,_,s,_⟩;exact⟨.of (s _ _ e1),.of (s _ _ e2)⟩) ?_ ?_
   case sg=>rfl
   ·rintro i u v r σ H1 hu hv ⟨v0,v1,rfl,s1,c1⟩ hr'
    have hi:=(AF.mp hu).1
    have sp:=Same.new (o:=.tup [u,v]) hr'
    refine⟨r,_,rfl,.of af,rfl,_,_,rfl,_,_,rfl,rfl,?_⟩
    refine⟨_,rfl,_,rfl,u,v,rfl,(sub i u v hu hv).keep (s1.trans sp),λH2 s2=>?_⟩
    have s3:=(s1.trans sp).trans s2
    refine⟨_,s2 _ _ (sp _ _ c1),by rw[AB,Bu];omega,_,_,rfl,s3.kbn hC KB.write,?_⟩
    rw[af,Gu,AJ];rfl
   rintro σ H1 ⟨v0,v1,rfl,s1,c1⟩
   refine⟨C,_,rfl,.of c1,?_⟩
   rw[IY]
   exact k H1 s1
  ·refine aN λY hY=>?_
   refine⟨_,rfl,.ref q,_,"tuple",false,rfl,.lst e2,yR,false,rfl,dP ?_⟩
   refine⟨_,rfl,.ref q,_,"list",true,rfl,.lst e2,xO,true,rfl,iL ?_⟩
   refine aN λY2 jn=>?_
   refine⟨_,rfl,.ref p,_,"tuple",false,rfl,.lst e1,yR,_,rfl,.ref q,_,"tuple",false,rfl,.lst e2,yR,rfl,_,rfl,dP ?_⟩
   refine⟨_,rfl,.ref p,_,"list",true,rfl,.lst e1,xO,_,rfl,.ref q,_,"list",true,rfl,.lst e2,xO,rfl,_,rfl,dP ?_⟩
   subst jn
   dsimp only[jH]
   refine⟨_,rfl,_,xs.length,rfl,.inl ⟨_,.of e1,rfl⟩,_,rfl,_,ys.length,rfl,.inl ⟨_,.of e2,rfl⟩,rfl,_,rfl,?_⟩
   rw[hl,show decide (V.int ((ys.length:Nat):Int)=V.int ((ys.length:Nat):Int))=true from decide_eq_true rfl]
   refine iL ?_
   refine .inl ⟨_,rfl,_,rfl,p,q,rfl,⟨_,.of e1⟩,⟨_,.of e2⟩,λC hC=>?_⟩
   refine N8 (xs:=xs) (ys:=ys) (λi σ H'=>∃v0 v1:Option V,σ=[v0,v1]/\Same H H'/\H' C=some (.lst ((BY i true).map V.bl))) hl
    ⟨none,none,?sg,Same.new hC,af⟩ (by rintro i σ H' _ ⟨_,_,_,s,_⟩;exact⟨.of (s _ _ e1),.of (s _ _ e2)⟩) ?_ ?_
   case sg=>rfl
   ·rintro i u v r σ H1 hu hv ⟨v0,v1,rfl,s1,c1⟩ hr'
    have hi:=(AF.mp hu).1
    have sp:=Same.new (o:=.tup [u,v]) hr'
    refine⟨r,_,rfl,.of af,rfl,_,_,rfl,_,_,rfl,rfl,?_⟩
    refine⟨_,rfl,_,rfl,u,v,rfl,(sub i u v hu hv).keep (s1.trans sp),λH2 s2=>?_⟩
    have s3:=(s1.trans sp).trans s2
    refine⟨_,s2 _ _ (sp _ _ c1),by rw[AB,Bu];omega,_,_,rfl,s3.kbn hC KB.write,?_⟩
    rw[af,Gu,AJ];rfl
   rintro σ H1 ⟨v0,v1,rfl,s1,c1⟩
   refine⟨C,_,rfl,.of c1,?_⟩
   rw[IY]
   exact k H1 s1
theorem sG{a:bR}(T:Txt K mg a):∀n:Nat,aR P w K mg base bj (n+1) a.fY a.gj ["_law_found","_law_due_here"] (qb n)
 | 0=>aR.none λvs H Q E h=>by
  obtain⟨x,y,_,h,_⟩:=h
  exact h
 | n+1=>Hu T (sG T n)
def aD(ds:List Nat):List Int:=ds.map λ(d:Nat)=>(d:Int)
theorem yS(ds:List Nat)(i:Nat):(aD ds)[i]? =ds[i]?.map λ(d:Nat)=>(d:Int):=by simp[aD]
theorem uh{ds:List Nat}{i:Nat}{x:V}(h:((aD ds).map V.int)[i]? =some x):∃n:Nat,x=.int (n:Int)/\ds[i]? =some n:=by
 obtain⟨f,rfl,hf⟩:=iO h
 rw[yS] at hf
 cases e:ds[i]? with
 | none=>rw[e] at hf;cases hf
 | some n=>rw[e] at hf;exact⟨n,by rw[<-AS hf],rfl⟩
theorem jS{rs:List Addr}{i:Nat}{x:V}(h:(rs.map V.ref)[i]? =some x):∃r,x=.ref r/\rs[i]? =some r:=by
 rw[AW] at h
 cases e:rs[i]? with
 | none=>rw[e] at h;cases h
 | some r=>rw[e] at h;exact⟨r,(AS h).symm,rfl⟩
theorem take_snoc{α:Type}{xs:List α}{i:Nat}{x:α}(h:xs[i]? =some x):xs.take (i+1)=xs.take i++[x]:=by rw[Co,h];rfl
theorem bL(ds:List Nat):(aD ds).length=ds.length:=by simp[aD]
theorem cL(xs ys:List Nat):aD (xs++ys)=aD xs++aD ys:=by simp[aD]
structure Moves (n b:Nat)(mv:List (List Nat)):Prop where
 len:mv.length=n
 lead:∀l∈mv,l.length=b/\∀x∈l,x<n
theorem item_at{α:Type}{xs:List α}{i:Nat}(d:α)(h:i<xs.length):xs[i]? =some (xs.getD i d):=by rw[BV,As h];rfl
theorem cU{ds:List Nat}{i:Nat}(h:i<ds.length):((aD ds).map V.int)[i]? =some (.int (ds.getD i 0:Nat)):=by
 rw[AW,yS,item_at 0 h];rfl
theorem Moves.row{H:Hp}{n b:Nat}{mv:List (List Nat)}{ps:List Addr}(h:Moves n b mv)(tp:bY H ps (mv.map aD)){r:Nat}(hr:r<n):
  ps[r]? =some (ps.getD r 0)/\H (ps.getD r 0)=some (.tup ((aD (mv.getD r [])).map V.int))/\(mv.getD r []).length=b:=by
 have lp:ps.length=n:=by rw[AX tp,AB,h.len]
 have hp:=item_at 0 (show r<ps.length by omega)
 obtain⟨l',hl',el⟩:=tp.get hp
 have hm:=item_at [] (show r<mv.length by rw[h.len];exact hr)
 rw[AW,hm] at hl'
 have:=AS hl'
 subst this
 exact⟨hp,el,(h.lead _ (AL hm)).1⟩
def sH(H:Hp)(ma nm:Addr)(bs:List Bool)(mv:List (List Nat)):Prop:=∃(ya va:Addr) (ps:List Addr),H ma=some (.tup [.ref nm,.ref ya,.ref va])/\H ya=some (.tup (bs.map V.bl))/\H va=some (.tup (ps.map V.ref))/\bY H ps (mv.map aD)
def stp(mv:List (List Nat))(r a:Nat):Nat:=(mv.getD r []).getD a 0
def run(mv:List (List Nat)):Nat->List Nat->Nat
 | r,[]=>r
 | r,a::w=>run mv (stp mv r a) w
def dJ(B:Nat)(w:List Nat):Prop:=∀a∈w,a<B
theorem dJ.nil(B:Nat):dJ B []:=λa h=>by cases h
theorem dJ.cons{B a:Nat}{w:List Nat}(h:a<B)(hw:dJ B w):dJ B (a::w):=λx hx=>(Ac.mp hx).elim (λe=>e▸h) (hw x)
theorem dJ.app{B:Nat}{v w:List Nat}(hv:dJ B v)(hw:dJ B w):dJ B (v++w):=λx hx=>(Ab.mp hx).elim (hv x) (hw x)
theorem Moves.stp{n B:Nat}{mv:List (List Nat)}(m:Moves n B mv){r a:Nat}(hr:r<n)(ha:a<B):stp mv r a<n:=by
 unfold My.stp
 have h1:mv[r]? =some (mv.getD r []):=item_at [] (by rw[m.len];exact hr)
 obtain⟨h2,h3⟩:=m.lead _ (AL h1)
 have h4:=item_at 0 (show a<(mv.getD r []).length by rw[h2];exact ha)
 exact h3 _ (AL h4)
def cb:List Nat->Nat->Option Nat
 | [],s=>some s
 | t::l,s=>if t<s then cb l s else if t=s then cb l (s+1) else none
def eZ:List (List Nat)->Nat->Nat->Option Nat
 | [],_,s=>some s
 | r::rs,i,s=>if i<s then(cb r s).bind λs'=>eZ rs (i+1) s' else none
theorem lE:∀(l:List Nat) (t s:Nat),cb (l++[t]) s=(cb l s).bind λs'=>cb [t] s'
 | [],_,_=>rfl
 | x::l,t,s=>by
  show cb (x::(l++[t])) s=(cb (x::l) s).bind _
  simp only[cb]
  by_cases h:x<s
  ·rw[if_pos h,if_pos h];exact lE l t s
  ·rw[if_neg h,if_neg h]
   by_cases h2:x=s
   ·rw[if_pos h2,if_pos h2];exact lE l t (s+1)
   ·rw[if_neg h2,if_neg h2];rfl
theorem sI:∀(rs:List (List Nat)) (r:List Nat) (i s:Nat),eZ (rs++[r]) i s=(eZ rs i s).bind λs'=>if i+rs.length<s' then cb r s' else none
 | [],r,i,s=>by
  show(if i<s then(cb r s).bind λs'=>some s' else none)=if i+0<s then cb r s else none
  rw[Nat.add_zero]
  split
  ·cases cb r s<;>rfl
  ·rfl
 | x::rs,r,i,s=>by
  show(if i<s then(cb x s).bind λs'=>eZ (rs++[r]) (i+1) s' else none)=(if i<s then(cb x s).bind λs'=>eZ rs (i+1) s' else none).bind _
  by_cases h:i<s
  ·rw[if_pos h,if_pos h]
   cases cb x s with
   | none=>rfl
   | some s'=>
    show eZ (rs++[r]) (i+1) s'=(eZ rs (i+1) s').bind _
    rw[sI rs r (i+1) s']
    congr 1
    funext q
    rw[A4,show i+1+rs.length=i+(rs.length+1) by omega]
  ·rw[if_neg h,if_neg h];rfl
def fz{α:Type}(on:α->Nat->α):α->List Nat->α
 | x,[]=>x
 | x,a::w=>fz on (on x a) w
theorem yT{α:Type}(on:α->Nat->α):∀(v w:List Nat) (x:α),fz on x (v++w)=fz on (fz on x v) w
 | [],_,_=>rfl
 | a::v,w,x=>yT on v w (on x a)
structure cn {α:Type}(x0:α)(on:α->Nat->α)(m:Nat)(xs:List α)(mv:List (List Nat)):Prop where
 once:xs.Nodup
 first:xs[0]? =some x0
 reach:∀x∈xs,∃w,dJ m w/\x=fz on x0 w
 row:∀(i:Nat) (r:List Nat),mv[i]? =some r->r.length=m/\∃x,xs[i]? =some x/\∀(c t:Nat),r[c]? =some t->xs[t]? =some (on x c)
 go:eZ mv 0 1=some xs.length
theorem cn.cB{α:Type}{x0:α}{on:α->Nat->α}{m:Nat}{xs:List α}{mv:List (List Nat)}(g:cn x0 on m xs mv)(h:mv.length=xs.length):Moves xs.length m mv:=by
 refine⟨h,λl hl=>?_⟩
 obtain⟨i,hi⟩:=BH hl
 obtain⟨h1,x,_,h2⟩:=g.row i l hi
 refine⟨h1,λt ht=>?_⟩
 obtain⟨c,hc⟩:=BH ht
 exact(AF.mp (h2 c t hc)).1
theorem cn.run{α:Type}{x0:α}{on:α->Nat->α}{m:Nat}{xs:List α}{mv:List (List Nat)}(g:cn x0 on m xs mv)(h:mv.length=xs.length):∀(w:List Nat) (i:Nat) (x:α),xs[i]? =some x->dJ m w->xs[run mv i w]? =some (fz on x w)
 | [],_,_,e,_=>e
 | a::w,i,x,e,hw=>by
  have hi:=(AF.mp e).1
  have ha:=hw a AZ
  have h1:=item_at [] (show i<mv.length by omega)
  obtain⟨l1,y,ey,h2⟩:=g.row i _ h1
  rw[e] at ey
  have:=AS ey
  subst this
  have h3:=item_at 0 (show a<(mv.getD i []).length by rw[l1];exact ha)
  exact cn.run g h w _ _ (h2 a _ h3) λz hz=>hw z (AV _ hz)
theorem i9{α β:Type}{F:α->β->Prop}{l:List α}{m:List β}{a:α}{b:β}(h:Bv F l m)(r:F a b):Bv F (l++[a]) (m++[b]):=by
 induction h with
 | nil=>exact .cons r .nil
 | cons q t ih=>exact .cons q ih
def lets(b:Nat):Nat->List (List Int)
 | 0=>[[]]
 | n+1=>(lets b n).flatMap λl=>(BM b).map λ(f:Nat)=>l++[(f:Int)]
theorem fA(b:Nat):∀n,(lets b n).length=b ^ n
 | 0=>rfl
 | n+1=>by
  show((lets b n).flatMap λl=>(BM b).map λ(f:Nat)=>l++[(f:Int)]).length=_
  rw[G7]
  have:(List.map (λl:List Int=>((BM b).map λ(f:Nat)=>l++[(f:Int)]).length) (lets b n))=BY (lets b n).length b:=by
   rw[Dm (g:=λ_=>b) (λl _=>by simp)]
   exact GJ ..
  rw[this,GA,fA b n,Dc]
theorem kf(b:Nat):∀(n:Nat) (l:List Int),l∈lets b n->l.length=n
 | 0,l,h=>by
  have h':l∈[([]:List Int)]:=h
  simp at h';subst h';rfl
 | n+1,l,h=>by
  have h':l∈(lets b n).flatMap λl=>(BM b).map λ(f:Nat)=>l++[(f:Int)]:=h
  obtain⟨l',h1,h2⟩:=List.mem_flatMap.mp h'
  obtain⟨f,_,rfl⟩:=A1.mp h2
  rw[AG,kf b n l' h1];rfl
theorem yU(b:Nat)(ls:List (List Int)):(ls.flatMap λl=>(BM b).map λ(f:Nat)=>l++[(f:Int)]).length=ls.length*b:=by
 rw[G7]
 have:(List.map (λl:List Int=>((BM b).map λ(f:Nat)=>l++[(f:Int)]).length) ls)=BY ls.length b:=by
  rw[Dm (g:=λ_=>b) (λl _=>by simp)]
  exact GJ ..
 rw[this,GA]
def vI:Sp:=λvs H Q _=>∃(b n:Nat),vs=[.int b,.int n]/\b<=4/\n<=4/\∀(D:Addr) (ps:List Addr) (H':Hp),H D=none->Same H H'->H' D=some (.lst (ps.map V.ref))->bY H' ps (lets b n)->Q (.ref D) H'
theorem dB:aO ["base","many","letters","spot","longer","letter"] ["base","many"] (ah c_):=⟨rfl,rfl,rfl,by decide+kernel,rfl,by decide+kernel,by decide+kernel⟩
theorem d4{b n:Nat}(hb:b<=4)(hn:n<=4):b ^ n<=256:=
 BB (Nat.pow_le_pow_left hb n) (BR (by decide) hn)
theorem mE{a:bR}(T:Txt K mg a):aR P w K mg base bj 1 a.gH a.iU ["base","many"] vI:=by
 refine T.wb.ok dB (λvs H Q E h=>?_) (λcdv A outer s H vs Q E hr h=>?_)
 ·obtain⟨b,n,rfl,_⟩:=h
  rfl
 ·obtain⟨b,n,rfl,hb,hn,k⟩:=h
  refine⟨_,(ai (ay (i:=2) dB.nd rfl (Ad rfl) (cf (ae (bf ag) ag)))
  (ai (dg A0 rfl (cj rfl T.cZ (ae (pv 1) ag)) (aH (i:=3) dB.nd rfl (Ad rfl))
   (ai (ay (i:=4) dB.nd rfl (Ad rfl) (cf ag))
   (ai (dg A0 rfl (cH (pv 2)) (aH (i:=5) dB.nd rfl (DK rfl))
    (av (cG (dO Au Cu Cv oM (pv 4) (ae (bN (aG.mk' (esc:=ah c_) (N:=["base","many","letters","spot","longer","letter"]) (own:=["figure"]) (aI:=["letter"]) (bJ:=[5]) rfl rfl (by decide+kernel)) rfl (cj rfl T.cZ (ae (pv 0) ag)) (λ_ _ _ _=>(aH (i:=0) (show A3 (["figure","letter"]:List Str) by decide+kernel) rfl (Ad rfl))) (λ_ _ _ _=>a_) (λ_ _ _ _=>(aV (mY K) (pv 1) (bf (ae (pv 0) ag))))) ag)))))
   (av (ay (i:=2) dB.nd rfl (Ad rfl) (pv 4))))))
  (av (aQ (pv 2))))),?_⟩
  refine⟨by decide,λp hp=>⟨by show 1<=sizeLine;decide,λD hD=>?_⟩⟩
  have sJ:H D=none:=(Same.new hp).free hD
  refine⟨_,rfl,n,rfl,by omega,by omega,kH (lo:=0) (n:=(n:Int).toNat) (λi σ H'=>∃(D:Addr) (ps:List Addr) (v3 v4 v5:Option V),σ=[some (.int b),some (.int n),some (.ref D),v3,v4,v5]/\H D=none/\Same H H'/\H' D=some (.lst (ps.map V.ref))/\bY H' ps (lets b i))
   ⟨D,[p],none,none,none,rfl,sJ,(Same.new hp).trans (Same.new hD),af,.cons (by rw[ao (ak (o:=.tup []) af hD)];exact af) .nil⟩ ?_ ?_⟩
  ·rintro i σ H1 hi ⟨D,ps,v3,v4,v5,rfl,hD,s1,eD,t1⟩
   rw[Ag] at hi
   have lps:ps.length=b ^ i:=by rw[AX t1,fA]
   have bi:b ^ i<=256:=d4 hb (by omega)
   have bi1:b ^ (i+1)<=256:=d4 hb (by omega)
   refine⟨by decide,λE hE=>?_⟩
   have Mn:H E=none:=s1.free hE
   have yV:D≠E:=ak eD hE
   refine⟨_,rfl,D,rfl,⟨ps.map V.ref,.of (by rw[ao yV];exact eD)⟩,iK (xs:=ps.map V.ref) (λj σ H'=>∃(qs:List Addr) (v5:Option V),σ=[some (.int b),some (.int n),some (.ref D),some (.int (0+(i:Int))),some (.ref E),v5]/\
     Same H H'/\H' D=some (.lst (ps.map V.ref))/\bY H' ps (lets b i)/\H' E=some (.lst (qs.map V.ref))/\bY H' qs (((lets b i).take j).flatMap λl=>(BM b).map λ(f:Nat)=>l++[(f:Int)]))
    ⟨[],v5,rfl,s1.trans (Same.new hE),by rw[ao yV];exact eD,t1.keep (Same.new hE).kt,af,.nil⟩ (λj σ H' _ ⟨_,_,_,_,h,_⟩=>.of h) ?_ ?_⟩
   ·rintro j y σ H2 hj ⟨qs,v5,rfl,s2,pe,t2,ph,u2⟩
    rw[AW] at hj
    cases ep:ps[j]? with
    | none=>rw[ep] at hj;cases hj
    | some p=>
     rw[ep] at hj
     have ey:y=.ref p:=(AS hj).symm
     subst ey
     obtain⟨l,el,hl⟩:=t2.get ep
     have jlt:j<ps.length:=(AF.mp ep).1
     refine⟨_,rfl,.inl ⟨rfl,_,.of ph⟩,_,rfl,b,rfl,by omega,by omega,λC hC=>?_⟩
     have nEC:E≠C:=ak ph hC
     have nDC:D≠C:=ak pe hC
     refine dZ (λf σ H'=>∃(rs:List Addr) (v:Option V),σ=[v,some (.ref p)]/\Same H2 H'/\H' C=some (.lst (rs.map V.ref))/\bY H' rs ((BM f).map λ(f:Nat)=>l++[(f:Int)]))
      ⟨[],none,rfl,Same.new hC,af,.nil⟩ ?_ ?_
     ·rintro f σ H3 hf ⟨rs,v,rfl,s3,mF,t3⟩
      refine⟨_,rfl,_,rfl,by show 1<=sizeLine;decide,λq hq=>?_⟩
      have lrs:rs.length=f:=by rw[AX t3];simp
      have yW:C≠q:=ak mF hq
      have ll:l.length=i:=kf b i l (AL el)
      have e0:(0:Int)+(f:Int)=(f:Int):=by omega
      have hq2:H2 q=none:=s3.free hq
      have Mp:(rs.map V.ref).length<sizeLine:=by rw[AB,lrs];exact AY (show f<10 by omega) (by decide)
      have s4:Same H2 (upd H3 q (.tup [.int (0+(f:Int))])):=s3.trans (Same.new hq)
      have t4:=t3.keep (Same.new (o:=.tup [.int (0+(f:Int))]) hq).kt
      refine⟨p,q,l.map V.int,[.int (0+(f:Int))],rfl,rfl,.of (s4 _ _ hl),.of af,by simp,?_,λhl0=>?_,λhl0 r hr=>?_⟩
      ·rw[AB,ll];exact BB (show i+1<=10 by omega) (by decide)
      ·have hl1:l=[]:=by cases l with | nil=>rfl | cons _ _=>cases hl0
       subst hl1
       have kg:(upd H3 q (.tup [.int (0+(f:Int))])) C=some (.lst (rs.map V.ref)):=by rw[ao yW];exact mF
       refine⟨rs.map V.ref,kg,Mp,rs++[q],_,rfl,?_,by rw[af,AJ];rfl,?_⟩
       ·exact s4.kbn hC KB.write
       ·rw[DJ,AJ]
        refine bA (t4.keep (aW.lst kg)) (.cons (aW.lst kg _ _ ?_) .nil)
        rw[af]
        simp
      ·have Up:C≠r:=ak (by rw[ao yW];exact mF) hr
       have kg:(upd (upd H3 q (.tup [.int (0+(f:Int))])) r (.tup (l.map V.int++[.int (0+(f:Int))]))) C=some (.lst (rs.map V.ref)):=by rw[ao Up,ao yW];exact mF
       refine⟨rs.map V.ref,kg,Mp,rs++[r],_,rfl,?_,by rw[af,AJ];rfl,?_⟩
       ·exact(s4.trans (Same.new hr)).kbn hC KB.write
       ·rw[DJ,AJ]
        refine bA ((t4.keep (Same.new hr).kt).keep (aW.lst kg)) (.cons (aW.lst kg _ _ ?_) .nil)
        rw[af]
        simp
     ·rintro σ H3 ⟨rs,v,rfl,s3,mF,t3⟩
      have lrs:rs.length=b:=by rw[AX t3];simp
      have Uq:qs.length<=1024:=by
       rw[AX u2,yU,Ao]
       have:=Gq (show min j (lets b i).length<=256 by rw[fA];omega) hb
       omega
      have Mq:=s3 _ _ ph
      refine⟨E,C,qs.map V.ref,rs.map V.ref,rfl,rfl,Mq,mF,?_,?_⟩
      ·rw[AB,AB,lrs];exact BB (show qs.length+b<=2000 by omega) (by decide)
      ·have kt:=aW.lst (o:=.lst (qs.map V.ref++rs.map V.ref)) Mq
       refine⟨qs++rs,_,rfl,(s2.trans s3).kbn Mn KB.write,?_,(t2.keep s3.kt).keep kt,?_,?_⟩
       ·rw[ao yV];exact s3 _ _ pe
       ·rw[af,AJ]
       ·have e1:(lets b i).take (j+1)=(lets b i).take j++[l]:=by rw[Co,el];rfl
        rw[e1,Es]
        refine bA ((u2.keep s3.kt).keep kt) ?_
        rw[GB]
        have:=t3.keep kt
        rwa [show((b:Nat):Int).toNat=b from Ag b] at this
   ·rintro σ H2 ⟨qs,v5,rfl,s2,pe,t2,ph,u2⟩
    refine⟨_,rfl,E,qs,_,_,_,rfl,Mn,s2,ph,?_⟩
    have e1:(lets b i).take (ps.map V.ref).length=lets b i:=by rw[AB,AX t2];exact Ax ..
    rw[e1] at u2
    exact u2
  ·rintro σ H1 ⟨D,ps,v3,v4,v5,rfl,hD,s1,eD,t1⟩
   exact⟨_,rfl,k D ps H1 hD s1 eD (by rwa [Ag] at t1)⟩
def eG(b n:Nat):List Int:=if h:n=0∨b<2 then [] else((n % b:Nat):Int)::eG b (n / b)
termination_by n
decreasing_by exact Ep (by omega) (by omega)
theorem jo(b:Nat):eG b 0=[]:=by rw[eG,dif_pos (.inl rfl)]
theorem nB{b n:Nat}(hb:2<=b)(hn:0<n):eG b n=((n % b:Nat):Int)::eG b (n / b):=by rw[eG,dif_neg (by omega)]
theorem yX{b:Nat}(hb:2<=b):∀(L n:Nat),n<2 ^ L->(eG b n).length<=L
 | 0,n,h=>by
  have:n=0:=by simpa using h
  subst this;rw[jo];simp
 | L+1,n,h=>by
  by_cases hn:n=0
  ·subst hn;rw[jo];simp
  ·rw[nB hb (by omega),A4]
   refine Nat.succ_le_succ (yX hb L _ ?_)
   rw[Nat.div_lt_iff_lt_mul (by omega)]
   refine AY h ?_
   rw[Dc]
   exact Nat.mul_le_mul_left _ hb
theorem IZ{b:Nat}(hb:2<=b)(n:Nat):∀f∈eG b n,0<=f/\f<b:=by
 induction n using Nat.strongRecOn with
 | ind n ih=>
  by_cases hn:n=0
  ·subst hn;rw[jo];intro f hf;cases hf
  ·rw[nB hb (by omega)]
   intro f hf
   rcases Ac.mp hf with rfl | hf
   ·have:=D4 n (show 0<b by omega)
    omega
   ·exact ih _ (Ep (by omega) (by omega)) f hf
theorem Mr{b:Nat}(h:b<=1000):(b:Int).natAbs.log2<9000:=by
 rw[DC]
 by_cases hb:b=0
 ·subst hb;decide
 ·rw[Nat.log2_lt hb]
  refine A7 h ?_
  refine AY (show 1000<2 ^ 10 by decide) (BR (by decide) (by decide))
structure g6 {α:Type}(x0:α)(on:α->Nat->α)(m:Nat)(xs:List α)(x:α)(leads:List Nat)(ys:List α):Prop where
 once:ys.Nodup
 pre:∃more,ys=xs++more
 reach:∀y∈ys,∃w,dJ m w/\y=fz on x0 w
 at':∀(c t:Nat),leads[c]? =some t->ys[t]? =some (on x c)
 go:cb leads xs.length=some ys.length
theorem i_:∀(l:List Nat) (s s':Nat),cb l s=some s'->s'<=s+l.length
 | [],s,s',h=>by cases h;exact AM _
 | t::l,s,s',h=>by
  rw[cb] at h
  rw[A4]
  split at h
  ·have:=i_ l s s' h;omega
  ·split at h
   ·have:=i_ l (s+1) s' h;omega
   ·cases h
theorem jT{α:Type}{xs more:List α}{i:Nat}{x:α}(h:xs[i]? =some x):(xs++more)[i]? =some x:=by
 rw[An (AF.mp h).1];exact h
section
variable{α:Type}{x0:α}{on:α->Nat->α}{m:Nat}{xs ys:List α}{mv:List (List Nat)}{x:α}{leads:List Nat}
theorem cn.begin:cn x0 on m [x0] []:=⟨by simp,rfl,λx hx=>⟨[],.nil m,by rw[AR.mp hx];rfl⟩,λi r h=>by simp at h,rfl⟩
theorem g6.start(g:cn x0 on m xs mv):g6 x0 on m xs x [] xs:=⟨g.once,⟨[],by simp⟩,g.reach,λc t h=>by simp at h,rfl⟩
theorem g6.old(g:g6 x0 on m xs x leads ys){t:Nat}(h:ys[t]? =some (on x leads.length)):g6 x0 on m xs x (leads++[t]) ys:=by
 have ht:=(AF.mp h).1
 refine⟨g.once,g.pre,g.reach,λc u hu=>?_,?_⟩
 ·by_cases hc:c<leads.length
  ·rw[An hc] at hu;exact g.at' c u hu
  ·have hb:=(AF.mp hu).1
   rw[AG] at hb
   have e:c=leads.length:=by simp at hb;omega
   subst e
   rw[Aj (AM _),Bz] at hu
   have:=AS hu
   subst this
   exact h
 ·rw[lE,g.go]
  show cb [t] ys.length=_
  simp only[cb]
  rw[if_pos ht]
theorem g6.new(g:g6 x0 on m xs x leads ys)(hm:leads.length<m)(hx:∃w,dJ m w/\x=fz on x0 w)(h:on x leads.length ∉ ys):g6 x0 on m xs x (leads++[ys.length]) (ys++[on x leads.length]):=by
 obtain⟨more,e⟩:=g.pre
 refine⟨?_,⟨more++[on x leads.length],by rw[e,DP]⟩,λy hy=>?_,λc u hu=>?_,?_⟩
 ·rw[B7]
  exact⟨g.once,by simp,λa ha b hb z=>h (by rw[<-AR.mp hb,<-z];exact ha)⟩
 ·rcases Ab.mp hy with z | z
  ·exact g.reach y z
  ·rw[AR.mp z]
   obtain⟨w,hw,ex⟩:=hx
   exact⟨w++[leads.length],hw.app (.cons hm (.nil m)),by rw[yT,<-ex];rfl⟩
 ·by_cases hc:c<leads.length
  ·rw[An hc] at hu;exact jT (g.at' c u hu)
  ·have hb:=(AF.mp hu).1
   rw[AG] at hb
   have e:c=leads.length:=by simp at hb;omega
   subst e
   rw[Aj (AM _),Bz] at hu
   have:=AS hu
   subst this
   rw[Aj (AM _),Bz];rfl
 ·rw[lE,g.go,AG]
  show cb [ys.length] ys.length=_
  simp only[cb]
  rw[if_neg (BQ _)]
  simp
theorem cn.next(g:cn x0 on m xs mv)(hx:xs[mv.length]? =some x)(r:g6 x0 on m xs x leads ys)(hl:leads.length=m):cn x0 on m ys (mv++[leads]):=by
 obtain⟨more,e⟩:=r.pre
 have hlt:=(AF.mp hx).1
 refine⟨r.once,by rw[e];exact jT g.first,r.reach,λi row hr=>?_,?_⟩
 ·by_cases hi:i<mv.length
  ·rw[An hi] at hr
   obtain⟨h1,y,h2,h3⟩:=g.row i row hr
   exact⟨h1,y,by rw[e];exact jT h2,λc t ht=>by rw[e];exact jT (h3 c t ht)⟩
  ·have hb:=(AF.mp hr).1
   rw[AG] at hb
   have ei:i=mv.length:=by simp at hb;omega
   subst ei
   rw[Aj (AM _),Bz] at hr
   have:=AS hr
   subst this
   exact⟨hl,x,by rw[e];exact jT hx,r.at'⟩
 ·rw[sI,g.go]
  show(if 0+mv.length<xs.length then cb leads xs.length else none)=_
  rw[if_pos (by omega)];exact r.go
end
def g7{P:Ak}{w:World}{α:Type}(R:jK P w α)(H:Hp)(vs:List V)(xs:List α):Prop:=Bv (λv x=>R.Rep x v H) vs xs
section
variable{P:Ak}{w:World}{α:Type}(R:jK P w α)(many:Nat)(on:α->Nat->α)(yes:α->Bool)(Ok:α->Prop)(Ev:Hp->Prop)
def ui:Sp:=λvs H Q _=>∃(x:α) (v:V) (a:Nat),vs=[v,.int a]/\R.Rep x v H/\Ok x/\a<many/\Ev H/\∀v' H',Same H H'->R.Rep (on x a) v' H'->Q v' H'
def Ke:Sp:=λvs H Q _=>∃(x:α) (v:V),vs=[v]/\R.Rep x v H/\Ok x/\Ev H/\∀H',Same H H'->Q (.bl (yes x)) H'
def RL(f1 f2:Addr):Sp:=λvs H Q _=>∃(x0:α) (v0:V) (most:Nat),vs=[v0,.int many,.ref f1,.ref f2,.int most]/\R.Rep x0 v0 H/\Ok x0/\Ev H/\most<=10000/\many<=1000/\
 (∀(xs:List α) (H':Hp),Same H H'->xs.Nodup->(∀x∈xs,∃w,dJ many w/\x=fz on x0 w)->most<xs.length->Q .non H')/\
 ∀(xs:List α) (mv:List (List Nat)) (vs:List V) (p Rr ya va:Addr) (ps:List Addr) (H':Hp),Same H H'->H Rr=none->mv.length=xs.length->xs.length<=most->cn x0 on many xs mv->H' p=some (.tup [.ref Rr,.ref ya,.ref va])->H' Rr=some (.lst vs)->g7 R H' vs xs->H' ya=some (.tup ((xs.map yes).map V.bl))->H' va=some (.tup (ps.map V.ref))->bY H' ps (mv.map aD)->Q (.ref p) H'
end
theorem jU{H:Hp}{a:Addr}{o o':HO}(h:H a=some o)(hn:∀l,o≠.tup l):aW H (upd H a o'):=λb xs e=>by
 rw[ao (fL e h λz=>hn xs z.symm)];exact e
theorem Ms{H H':Hp}{a:Addr}{o:HO}(h:H a=some o)(hn:∀l,o≠.tup l)(k:KB a H H'):aW H H':=λb xs e=>k _ _ e (fL e h λz=>hn xs z.symm)
theorem g7.keep{P:Ak}{w:World}{α:Type}{R:jK P w α}{H H':Hp}{vs:List V}{xs:List α}(h:g7 R H vs xs)(k:aW H H'):g7 R H' vs xs:=Paired.mP h λ_ _ z=>R.same z k
theorem g7.at{P:Ak}{w:World}{α:Type}{R:jK P w α}{H:Hp}:∀{vs:List V} {xs:List α} {i:Nat} {x:α},g7 R H vs xs->xs[i]? =some x->∃v,vs[i]? =some v/\R.Rep x v H
 | _,_,_,_,.nil,e=>by simp at e
 | _,_,0,_,.cons r _,e=>by simp at e;subst e;exact⟨_,rfl,r⟩
 | _,_,i+1,_,.cons _ t,e=>by
  simp only[B3] at e ⊢
  exact g7.at t e
theorem cx:aO ["first","many","onward","is_yes","most","rooms","numbers","moves","room","leads","letter","to","yes"] ["first","many","onward","is_yes","most"] (ah bQ):=⟨rfl,rfl,rfl,by decide+kernel,rfl,by decide+kernel,by decide+kernel⟩
set_option maxHeartbeats 16000000 in
theorem wL{a:bR}(T:Txt K mg a){α:Type}(R:jK P w α){many:Nat}{on:α->Nat->α}{yes:α->Bool}{Ok:α->Prop}{Ev:Hp->Prop}{f1 f2:Addr}{k:Nat}
  (F1:FnAt P w K mg base k f1 2 (ui R many on Ok Ev)) (F2:FnAt P w K mg base k f2 1 (Ke R yes Ok Ev)) (Mu:∀x a,Ok x->a<many->Ok (on x a)) (yY:∀H H',Ev H->Same H H'->Ev H'):
  aR P w K mg base bj (k+1) a.iz a.gJ ["first","many","onward","is_yes","most"] (RL R many on yes Ok Ev f1 f2):=by
 obtain⟨o1,fd1,ps1,ho1,hf1,hl1,hb1,G1⟩:=F1
 obtain⟨o2,fd2,ps2,ho2,hf2,hl2,hb2,G2⟩:=F2
 refine T.yr.ok cx (λvs H Q E h=>?_) (λAr outer sh H vs Q E hr h=>?_)
 ·obtain⟨x0,v0,most,rfl,_⟩:=h
  rfl
 ·obtain⟨x0,v0,most,rfl,r0,k0,I_,hbm,Xi,q0,q⟩:=h
  refine⟨_,(ai (ay (i:=5) cx.nd rfl (Ad rfl) (cf (ae (pv 0) ag)))
  (ai (ay (i:=6) cx.nd rfl (Ad rfl) (R.t8 (ck hr) (pv 0) aj rfl rfl))
  (ai (ay (i:=7) cx.nd rfl (Ad rfl) (cf ag))
  (ai (fN A0 (Nu Pm WS (aL (bu K) (by rfl) T.cF bW (ae (pv 7) ag)) (aL (bu K) (by rfl) T.cF bW (ae (pv 5) ag)) (pv 4))
   (ai (ay (i:=8) cx.nd rfl (Ad rfl) (aB (cP K) (pv 5) (aL (bu K) (by rfl) T.cF bW (ae (pv 7) ag)) (λ_ _=>rfl)))
   (ai (ay (i:=9) cx.nd rfl (Ad rfl) (cf ag))
   (ai (dg A0 rfl (cj rfl T.cZ (ae (pv 1) ag)) (aH (i:=10) cx.nd rfl (Ad rfl))
    (ai (ay (i:=11) cx.nd rfl (Ad rfl) (qH (i:=2) G1 ho1 hf1 hr hb1 rfl (Ad rfl) (ae (pv 8) (ae (pv 10) ag))))
    (ai (dN (KI (vy (P:=P) (w:=w) (ck hr) (pv 11) (pv 6)) (by with_unfolding_all rfl))
     (ai (IP (P:=P) (w:=w) (ck hr) (pv 6) (pv 11) (aL (bu K) (by rfl) T.cF bW (ae (pv 5) ag)) rfl)
     (av (cG (dO Au A_ A' cy (pv 5) (ae (pv 11) ag)))))
     cp)
    (av (cG (dO Au A_ A' cy (pv 9) (ae (IM (P:=P) (w:=w) (ck hr) (pv 6) (pv 11) (λ_ _=>rfl)) ag)))))))
   (av (cG (dO Au A_ A' cy (pv 7) (ae (bF (bG K) (by rfl) T.b_ bS (ae (pv 9) ag)) ag))))))))
  (ai (dN (bx pS (aL (bu K) (by rfl) T.cF bW (ae (pv 5) ag)) (pv 4) (bD _))
   (av (aQ ie))
   cp)
  (ai (ay (i:=12) cx.nd rfl (Ad rfl) (bF (bG K) (by rfl) T.b_ bS (ae (bN (aG.mk' (esc:=ah bQ) (N:=["first","many","onward","is_yes","most","rooms","numbers","moves","room","leads","letter","to","yes"]) (own:=["room"]) (aI:=["is_yes"]) (bJ:=[3]) rfl rfl (by decide+kernel)) rfl (cH (pv 5)) (λ_ _ _ _=>(aH (i:=0) (show A3 (["room","is_yes"]:List Str) by decide+kernel) rfl (Ad rfl))) (λ_ _ _ _=>a_) (λ_ _ _ _=>(bF JD (by rfl) T.yQ tU (ae (qH (i:=1) G2 ho2 hf2 hr hb2 (by rfl) (by first | exact Ad rfl | exact DK (Ad rfl) | exact DK (DK rfl)) (ae (pv 0) ag)) ag)))) ag)))
  (av (aQ (bf (ae (pv 5) (ae (pv 12) (ae (bF (bG K) (by rfl) T.b_ bS (ae (pv 7) ag)) ag)))))))))))),?_⟩
  have big:(100000:Nat)<=sizeLine:=by decide
  have xo:∀(w:List Nat) (x:α),Ok x->dJ many w->Ok (fz on x w):=by
   intro w
   induction w with
   | nil=>intro x hx _;exact hx
   | cons c w ih=>intro x hx hw;exact ih _ (Mu x c hx (hw c AZ)) λz hz=>hw z (AV _ hz)
  refine aN λY hY=>?_
  refine⟨_,rfl,by show 1<=sizeLine;omega,λRr hR=>?_⟩
  have sR:=Same.new (o:=.lst [v0]) hR
  dsimp only[aJ]
  subst hY
  refine aN λY hY=>?_
  refine⟨x0,v0,rfl,R.same r0 sR.kt,λD H2 hD s2 num=>?_⟩
  have Mv:H2 Rr=some (.lst [v0]):=s2 _ _ af
  have sJ:H D=none:=sR.free hD
  have DR:Rr≠D:=ak (show(upd H Rr (.lst [v0])) Rr=some (.lst [v0]) from af) hD
  dsimp only[aJ]
  subst hY
  refine aN λY hY=>?_
  refine⟨by show 0<=sizeLine;omega,λM hM=>?_⟩
  have sM:=Same.new (o:=.lst []) hM
  have PX:H M=none:=sR.free (s2.free hM)
  have MR:M≠Rr:=(ak Mv hM).symm
  obtain⟨oD,Ur,_,_⟩:=R.isD num
  have MD:M≠D:=(ak Ur hM).symm
  have vJ:=(sR.trans s2).trans sM
  dsimp only[aJ]
  subst hY
  refine ji (t:=lT _ _) (u:=lJ _ _) (λσ H'=>∃(xs:List α) (mv:List (List Nat)) (vs:List V) (ps:List Addr) (v8 v9 v10 v11:Option V),σ=[some v0,some (.int (many:Nat)),some (.ref f1),some (.ref f2),some (.int (most:Nat)),some (.ref Rr),some (.ref D),some (.ref M),v8,v9,v10,v11,none]/\Same H H'/\
   H' Rr=some (.lst vs)/\g7 R H' vs xs/\H' M=some (.lst (ps.map V.ref))/\bY H' ps (mv.map aD)/\cn x0 on many xs mv/\xs.length<=20000/\(xs.length<=most->mv.length=xs.length)) ?re (λY rest=>?_)
  case re=>
   rintro σ H' ⟨xs,mv,vs,ps,v8,v9,v10,v11,rfl,s',eR,rp,eM,tp,g,lx,hl⟩
   have I0:vs.length=xs.length:=AX rp
   have lps:ps.length=mv.length:=by rw[AX tp,AB]
   refine aN λY hY=>?_
   refine⟨_,rfl,_,vs.length,rfl,.inl ⟨_,.of eR,rfl⟩,_,rfl,_,_,rfl,rfl,_,rfl,?_⟩
   by_cases hc:xs.length<=most
   rotate_left
   ·rw[show decide ((most:Int)<((vs.length:Nat):Int))=true from decide_eq_true (by omega)]
    exact iL (q0 xs H' s' g.once g.reach (by omega))
   have hl:=hl hc
   rw[show decide ((most:Int)<((vs.length:Nat):Int))=false from decide_eq_false (by omega)]
   refine dP ?_
   subst hY
   dsimp only[jH]
   refine aN λY hY=>?_
   refine⟨_,rfl,Rr,rfl,⟨_,.of eR⟩,λC hC=>?_⟩
   refine dn (xs:=vs) (λj σ H2=>∃v:Option V,σ=[v,some (.ref f2)]/\Same H' H2/\H2 C=some (.lst (((xs.take j).map yes).map V.bl)))
    ⟨none,?sg,Same.new hC,af⟩ (λj σ H2 _ ⟨_,_,s2,_⟩=>.of (s2 _ _ eR)) ?_ ?_
   case sg=>rfl
   ·rintro j y σ H2 hy ⟨v,rfl,s2,c2⟩
    have hj:j<xs.length:=by rw[<-I0];exact(AF.mp hy).1
    have ex:xs[j]? =some xs[j]:=As hj
    obtain⟨v',hv',rv⟩:=rp.at ex
    rw[hy] at hv'
    have hv2:=AS hv'
    subst hv2
    obtain⟨w,hw,ew⟩:=g.reach xs[j] (C0 ..)
    have okx:Ok xs[j]:=by rw[ew];exact xo w x0 k0 hw
    refine⟨rfl,_,rfl,xs[j],y,rfl,R.same rv s2.kt,okx,yY _ _ I_ (s'.trans s2),λH3 s3=>?_⟩
    refine .inr ⟨_,rfl,_,s3 _ _ c2,by rw[AB,AB,Ao];omega,_,rfl,(s2.trans s3).kbn hC KB.write,?_⟩
    rw[af,take_snoc ex,AJ,AJ];rfl
   rintro σ H2 ⟨v,rfl,s2,c2⟩
   rw[I0,Ax] at c2
   refine⟨C,_,rfl,.inl ⟨.of c2,λYa hYa=>?_⟩⟩
   have sY:=Same.new (o:=.tup ((xs.map yes).map V.bl)) hYa
   dsimp only[aJ]
   subst hY
   refine⟨_,rfl,_,rfl,_,rfl,M,_,rfl,.inl ⟨.of (sY _ _ (s2 _ _ eM)),λVa Us=>⟨by show 3<=sizeLine;omega,λp hp=>?_⟩⟩⟩
   have sV:=Same.new (o:=.tup (ps.map V.ref)) Us
   have sP:=Same.new (o:=.tup [.ref Rr,.ref Ya,.ref Va]) hp
   have df:=((s2.trans sY).trans sV).trans sP
   exact q xs mv vs p Rr Ya Va ps _ (s'.trans df) hR hl hc g af (df _ _ eR) (rp.keep df.kt) (sP _ _ (sV _ _ af)) (sP _ _ af) (tp.keep df.kt)
  refine p7 (λm σ H'=>∃(xs:List α) (mv:List (List Nat)) (vs:List V) (ps:List Addr) (v8 v9 v10 v11:Option V),m=most+1-mv.length/\σ=[some v0,some (.int (many:Nat)),some (.ref f1),some (.ref f2),some (.int (most:Nat)),some (.ref Rr),some (.ref D),some (.ref M),v8,v9,v10,v11,none]/\Same H H'/\
    H' Rr=some (.lst vs)/\g7 R H' vs xs/\R.Num H' D xs/\H' M=some (.lst (ps.map V.ref))/\bY H' ps (mv.map aD)/\cn x0 on many xs mv/\mv.length<=xs.length/\xs.length<=20000)
   ⟨_,[x0],[],[v0],[],none,none,none,none,rfl,rfl,vJ,sM _ _ Mv,.cons (R.same r0 vJ.kt) .nil,R.keep num (ao MD.symm),af,.nil,cn.begin,by simp,by simp⟩ ?_ ?_
  ·rintro m σ H4 N hN ⟨xs,mv,vs,ps,v8,v9,v10,v11,rfl,rfl,s4,eR,rp,nm,eM,tp,g,hl,lx⟩
   have I0:vs.length=xs.length:=AX rp
   have lps:ps.length=mv.length:=by rw[AX tp,AB]
   refine⟨_,rfl,_,ps.length,rfl,.inl ⟨_,.of eM,by rw[AB]⟩,_,rfl,_,vs.length,rfl,.inl ⟨_,.of eR,rfl⟩,_,_,rfl,rfl,_,rfl,?_⟩
   by_cases hlt:mv.length<xs.length
   ·rw[show decide (((ps.length:Nat):Int)<((vs.length:Nat):Int))=true from decide_eq_true (by omega)]
    refine iL ⟨_,rfl,_,_,rfl,rfl,_,rfl,?_⟩
    by_cases hc:xs.length<=most
    rotate_left
    ·rw[show decide (((vs.length:Nat):Int)<=((most:Nat):Int))=false from decide_eq_false (by omega)]
     refine dP ?_
     exact rest _ _ ⟨xs,mv,vs,ps,v8,v9,v10,v11,rfl,s4,eR,rp,eM,tp,g,lx,λz=>absurd z hc⟩
    rw[show decide (((vs.length:Nat):Int)<=((most:Nat):Int))=true from decide_eq_true (by omega)]
    refine iL ?_
    refine aN λY hY=>?_
    obtain⟨x,ex⟩:∃x,xs[mv.length]? =some x:=⟨_,As hlt⟩
    obtain⟨vx,Ut,rx⟩:=rp.at ex
    have yZ:=g.reach x (AL ex)
    have okx:Ok x:=by obtain⟨w,hw,ew⟩:=yZ;rw[ew];exact xo w x0 k0 hw
    refine⟨_,rfl,_,rfl,_,ps.length,rfl,.inl ⟨_,.of eM,by rw[AB]⟩,Rr,_,_,vx,rfl,rfl,.of eR,au (by rw[lps];exact Ut),?_⟩
    dsimp only[aJ]
    subst hY
    refine aN λY hY=>?_
    refine⟨by show 0<=sizeLine;omega,λL hL=>?_⟩
    have sL:=Same.new (o:=.lst []) hL
    have hL0:H L=none:=s4.free hL
    have LR:L≠Rr:=(ak eR hL).symm
    have LM:L≠M:=(ak eM hL).symm
    obtain⟨oD4,OI,_,_⟩:=R.isD nm
    have LD:L≠D:=(ak OI hL).symm
    dsimp only[aJ]
    subst hY
    refine aN λY hY=>?_
    refine⟨_,rfl,_,rfl,by omega,by omega,m9 (n:=(many:Int).toNat) (λj σ H'=>∃(ys:List α) (us:List V) (leads:List Nat) (v10 v11:Option V),σ=[some v0,some (.int (many:Nat)),some (.ref f1),some (.ref f2),some (.int (most:Nat)),some (.ref Rr),some (.ref D),some (.ref M),some vx,some (.ref L),v10,v11,none]/\Same H H'/\aW H4 H'/\
      H' Rr=some (.lst us)/\g7 R H' us ys/\R.Num H' D ys/\H' M=some (.lst (ps.map V.ref))/\H' L=some (.lst ((aD leads).map V.int))/\leads.length=j/\g6 x0 on many xs x leads ys)
     ⟨xs,vs,[],v10,v11,rfl,s4.trans sL,sL.kt,sL _ _ eR,rp.keep sL.kt,R.keep nm (ao LD.symm),sL _ _ eM,af,rfl,g6.start g⟩ ?_ ?_⟩
    ·rintro j σ H5 N2 Mw hj ⟨ys,us,leads,v10,v11,rfl,s5,vK,qu,pj,px,ou,y_,ll,gr⟩
     have ej:(0:Int)+(j:Int)=((j:Nat):Int):=by omega
     rw[ej]
     have Uu:j<many:=by omega
     have ly:=i_ _ _ _ gr.go
     have Ja:us.length=ys.length:=AX pj
     dsimp only[aJ]
     refine aN λY hY=>?_
     refine⟨rfl,_,rfl,_,rfl,x,vx,j,rfl,R.same rx vK,okx,Uu,yY _ _ I_ s5,λto H6 s6 pz=>?_⟩
     have y6:=s6 _ _ qu
     have pA:=s6 _ _ ou
     have Mx:=s6 _ _ y_
     have Mz:=pj.keep s6.kt
     obtain⟨Uv,kh,Uw,MA⟩:=R.isD px
     have sO:=R.keep px ((s6 _ _ kh).trans kh.symm)
     have OJ:=s6 _ _ kh
     have mG:aW H4 H6:=λb l z=>s6 _ _ (vK _ _ z)
     have MB:=s5.trans s6
     dsimp only[aJ]
     subst hY
     refine ji (t:=oI _ _ _) (u:=Jy _) (λσ H'=>∃(zs:List α) (ws:List V) (t:Nat),σ=[some v0,some (.int (many:Nat)),some (.ref f1),some (.ref f2),some (.int (most:Nat)),some (.ref Rr),some (.ref D),some (.ref M),some vx,some (.ref L),some (.int (j:Nat)),some to,none]/\Same H H'/\aW H6 H'/\
      H' Rr=some (.lst ws)/\g7 R H' ws zs/\R.Num H' D zs/\H' M=some (.lst (ps.map V.ref))/\H' L=some (.lst ((aD leads).map V.int))/\zs[t]? =some (on x j)/\g6 x0 on many xs x (leads++[t]) zs) ?Ux (λY sQ=>?_)
     case Ux=>
      rintro σ H7 ⟨zs,ws,t,rfl,s7,sS,iH,y8,sU,Uy,y9,hz,MC⟩
      refine⟨_,rfl,Ad ⟨rfl,_,.of y9⟩,_,rfl,_,rfl,D,_,rfl,R.there sU (R.same pz sS) MC.once hz,L,_,_,rfl,rfl,y9,by rw[AB,bL];omega,?_⟩
      have kL:aW H7 (upd H7 L (.lst ((aD leads).map V.int++[.int (t:Nat)]))):=jU y9 (λl z=>nomatch z)
      refine Mw _ _ ⟨zs,ws,leads++[t],_,_,rfl,s7.kbn hL0 KB.write,λb l z=>kL _ _ (sS _ _ (mG _ _ z)),by rw[ao LR.symm];exact iH,y8.keep kL,R.keep sU (ao LD.symm),by rw[ao LM.symm];exact Uy,?_,by rw[AG,ll];rfl,MC⟩
      rw[af,cL,AJ];rfl
     by_cases hm:on x j∈ys
     ·obtain⟨i,hi⟩:=BH hm
      refine⟨_,rfl,_,rfl,D,_,rfl,R.there sO pz gr.once hi,_,rfl,?_⟩
      refine dP ?_
      exact sQ _ _ ⟨ys,us,i,rfl,MB,λ_ _ z=>z,y6,Mz,sO,pA,Mx,hi,gr.old (by rw[ll];exact hi)⟩
     ·refine⟨_,rfl,_,rfl,D,_,rfl,R.miss sO pz hm,_,rfl,?_⟩
      refine iL ?_
      obtain⟨H7,OL,pB,sU⟩:=R.put sO pz hm (by omega)
      have ME:=gr.new (by omega) yZ (by rw[ll];exact hm)
      rw[ll] at ME
      have iH:=pB _ _ y6 DR
      refine⟨_,rfl,_,us.length,rfl,.inl ⟨_,.of y6,rfl⟩,_,rfl,_,rfl,D,H7,rfl,by rw[Ja];exact OL,?_⟩
      refine⟨_,rfl,Ad ⟨rfl,_,.of iH⟩,_,rfl,Rr,_,_,rfl,rfl,iH,by omega,?_⟩
      have sS:aW H6 H7:=Ms OJ MA pB
      have kR:aW H7 (upd H7 Rr (.lst (us++[to]))):=jU iH (λl z=>nomatch z)
      have za:aW H6 (upd H7 Rr (.lst (us++[to]))):=λb l z=>kR _ _ (sS _ _ z)
      refine sQ _ _ ⟨ys++[on x j],us++[to],ys.length,rfl,(MB.kbn sJ pB).kbn hR KB.write,za,af,?_,R.keep sU (ao DR.symm),by rw[ao MR];exact pB _ _ pA MD,by rw[ao LR];exact pB _ _ Mx LD,by rw[Aj (AM _),Bz];rfl,ME⟩
      exact i9 (Mz.keep za) (R.same pz za)
    ·rintro σ H5 ⟨ys,us,leads,v10,v11,rfl,s5,vK,qu,pj,px,ou,y_,ll,gr⟩
     subst hY
     have Uz:leads.length=many:=by rw[ll];omega
     have g2:=g.next ex gr Uz
     have ly:=i_ _ _ _ gr.go
     obtain⟨more,sW⟩:=gr.pre
     have lxy:xs.length<=ys.length:=by rw[sW,AG];omega
     refine⟨_,rfl,Ad ⟨rfl,_,.of ou⟩,_,rfl,L,_,rfl,.inl ⟨.of y_,λt ht=>?_⟩⟩
     have sT:=Same.new (o:=.tup ((aD leads).map V.int)) ht
     have UA:M≠t:=ak ou ht
     have nRt:Rr≠t:=ak qu ht
     obtain⟨Uv,kh,Uw,MA⟩:=R.isD px
     have UB:D≠t:=ak kh ht
     have pA:=sT _ _ ou
     refine⟨M,_,_,rfl,rfl,pA,by rw[AB];omega,?_⟩
     have kM:aW (upd H5 t (.tup ((aD leads).map V.int))) (upd (upd H5 t (.tup ((aD leads).map V.int))) M (.lst (ps.map V.ref++[.ref t]))):=jU pA (λl z=>nomatch z)
     have kA:aW H5 (upd (upd H5 t (.tup ((aD leads).map V.int))) M (.lst (ps.map V.ref++[.ref t]))):=λb l z=>kM _ _ (sT.kt _ _ z)
     refine hN _ _ _ ?_ ⟨ys,mv++[leads],us,ps++[t],_,_,_,_,rfl,rfl,(s5.trans sT).kbn PX KB.write,by rw[ao MR.symm];exact sT _ _ qu,pj.keep kA,R.keep px (by rw[ao MD.symm,ao UB]),by rw[af,AJ];rfl,?_,g2,by rw[AG];simp;omega,by omega⟩
     ·rw[AG];simp;omega
     ·rw[AJ]
      exact i9 ((tp.keep vK).keep kA) (by rw[ao UA.symm,af])
   ·have e:mv.length=xs.length:=by omega
    rw[show decide (((ps.length:Nat):Int)<((vs.length:Nat):Int))=false from decide_eq_false (by omega)]
    refine dP ⟨_,rfl,dP ?_⟩
    exact rest _ _ ⟨xs,mv,vs,ps,v8,v9,v10,v11,rfl,s4,eR,rp,eM,tp,g,lx,λ_=>e⟩
  ·rintro σ H Q Q' h ⟨v,e1,v2,n1,e2,l1,v3,e3,v4,n2,e4,l2,i,j,e5,e6,k,e7,z⟩
   refine⟨v,e1,v2,n1,e2,l1,v3,e3,v4,n2,e4,l2,i,j,e5,e6,k,e7,?_⟩
   cases k with
   | false=>
    rw[if_neg Am] at z ⊢
    obtain⟨k',e8,q⟩:=z
    exact⟨k',e8,h _ _ q⟩
   | true=>
    rw[if_pos rfl] at z ⊢
    obtain⟨v5,e9,i2,j2,e10,S_,k2,MF,q⟩:=z
    exact⟨v5,e9,i2,j2,e10,S_,k2,MF,h _ _ q⟩
def OM(P:Ak)(w:World)(K:AD)(mg:Str->Option Value)(base:Heap)(k:Nat):Sp:=λvs H Q _=>∃(b most:Nat) (nm g:Addr) (ss:List Str) (α:Type) (R:jK P w α) (on:α->Nat->α) (yes:α->Bool) (Ok:α->Prop) (Ev:Hp->Prop) (x0:α) (v0:V) (f1 f2:Addr) (D:List Addr),
 vs=[.int b,.ref nm,.ref g,.int most]/\b<=4/\ss.length<=4/\H nm=some (.tup (ss.map V.str))/\H g=some (.tup [v0,.ref f1,.ref f2])/\(∀a∈D,∃φ,H a=some (.ext φ))/\
 iR P w K mg base H D k f1 2 (ui R (b ^ ss.length) on Ok Ev)/\iR P w K mg base H D k f2 1 (Ke R yes Ok Ev)/\(∀x a,Ok x->a<b ^ ss.length->Ok (on x a))/\(∀H H',Ev H->Same H H'->Ev H')/\
 (∀D H,(∀a∈D,∃φ,H a=some (.ext φ))->Ev H->Ev (dk D H))/\R.Rep x0 v0 H/\Ok x0/\Ev H/\most<=10000/\(∀(xs:List α) (H':Hp),Same H H'->xs.Nodup->(∀x∈xs,∃w,dJ (b ^ ss.length) w/\x=fz on x0 w)->most<xs.length->Q .non H')/\
 ∀(xs:List α) (mv:List (List Nat)) (p:Addr) (H':Hp),Same H H'->mv.length=xs.length->xs.length<=most->cn x0 on (b ^ ss.length) xs mv->sH H' p nm (xs.map yes) mv->Q (.ref p) H'
theorem jx:aO ["base","names","growth","most","many","grown"] ["base","names","growth","most"] (ah eS):=⟨rfl,rfl,rfl,by decide+kernel,rfl,by decide+kernel,by decide+kernel⟩
theorem wM{a:bR}(T:Txt K mg a)(k:Nat):aR P w K mg base bj (k+2) a.iA a.ju ["base","names","growth","most"] (OM P w K mg base k):=by
 have jy:=mE (P:=P) (w:=w) (base:=base) T
 refine T.yw.ok jx (λvs H Q E h=>?_) (λcdv A outer s H vs Q E hr h=>?_)
 ·obtain⟨b,most,nm,g,ss,α,R,on,yes,Ok,Ev,x0,v0,f1,f2,D,rfl,_⟩:=h
  rfl
 ·obtain⟨b,most,nm,g,ss,α,R,on,yes,Ok,Ev,x0,v0,f1,f2,D,rfl,hb4,X9,UC,eg,hD,F1,F2,Mu,yY,evU,r0,ok0,I_,hbm,q0,q⟩:=h
  have i4:aP 1 _:=hr.mono (by omega)
  have OO:aP (k+1) _:=hr
  refine⟨_,(ai (ay (i:=4) jx.nd rfl (Ad rfl) (aL (bu K) (by rfl) T.cF bW (ae (aA jy i4 rfl T.oa T.og T.oh .nil aK (ae (pv 0) (ae (aL (bu K) (by rfl) T.cF bW (ae (pv 1) ag)) ag))) ag)))
  (ai (ay (i:=5) jx.nd rfl (Ad rfl) (x4 (λ_=>rfl) OO rfl T.yt T.yu T.yv (ae (aB (ax K) (pv 2) aj (λ_ _=>rfl)) (ae (pv 4) (ae (aB (ax K) (pv 2) aj (λ_ _=>rfl)) (ae (aB (ax K) (pv 2) aj (λ_ _=>rfl)) (ae (pv 3) ag)))))))
  (ai (dN (bx oK (pv 5) ie (bD _))
   (av (aQ ie))
   cp)
  (av (aQ (bf (ae (pv 1) (ae (aB (ax K) (pv 5) aj (λ_ _=>rfl)) (ae (aB (ax K) (pv 5) aj (λ_ _=>rfl)) ag))))))))),?_⟩
  have big:(10000:Nat)<=sizeLine:=by decide
  have hB:b ^ ss.length<=256:=d4 hb4 X9
  refine⟨_,rfl,_,rfl,_,ss.length,rfl,.inr ⟨_,.of UC,by rw[AB]⟩,b,ss.length,rfl,hb4,X9,λD0 ps0 H1 sJ s1 e1 t1=>?_⟩
  refine⟨_,b ^ ss.length,rfl,.inl ⟨_,.of e1,by rw[AB,AX t1,fA]⟩,?_⟩
  dsimp only[aJ]
  have UD:=s1 _ _ eg
  refine⟨_,rfl,g,_,_,v0,rfl,rfl,.of UD,au (j:=0) rfl,_,rfl,_,rfl,g,_,_,.ref f1,rfl,rfl,.of UD,au (j:=1) rfl,_,rfl,g,_,_,.ref f2,rfl,rfl,.of UD,au (j:=2) rfl,_,rfl,?_⟩
  have hD1:∀a∈D,∃φ,H1 a=some (.ext φ):=λa ha=>let ⟨φ,e⟩:=hD a ha;⟨φ,s1 _ _ e⟩
  refine⟨D,hD1,λbase' W=>?_⟩
  have F1':=(F1.same λb φ _ e=>s1 _ _ e) base' W.b
  have F2':=(F2.same λb φ _ e=>s1 _ _ e) base' W.b
  refine⟨_,wL (k:=k) T R F1' F2' Mu yY,?_⟩
  have ktu:aW H1 (dk D H1):=λb xs z=>m7 hD1 z (λ_ y=>nomatch y)
  refine⟨x0,v0,most,rfl,R.same (R.same r0 s1.kt) ktu,ok0,evU D H1 hD1 (yY _ _ I_ s1),hbm,by omega,λxs H2 s2 nd rc lt n2=>?_,λxs mv vs p Rr ya va ps H2 s2 hRr hl hlm gr ep _ _ ey ev tp n2=>?_⟩
  ·have df:=s1.trans (kT s2)
   generalize gY D H1 H2=H3 at df ⊢
   dsimp only[aJ]
   refine⟨_,rfl,rfl,_,rfl,?_⟩
   exact cW (λ_=>q0 xs H3 df nd rc lt) (λz=>absurd rfl z)
  have s3:=kT s2
  have o2:∀{b:Addr} {o:HO},H2 b=some o->gY D H1 H2 b=some o:=λ{b o} e=>by
   rw[eB λz=>?_]
   ·exact e
   ·rw[n2 b z] at e;cases e
  have vL:=o2 ep
  have Yb:=o2 ey
  have vM:=o2 ev
  have pC:=tp.keep (show aW H2 (gY D H1 H2) from λb xs z=>o2 z)
  have df:=s1.trans s3
  generalize gY D H1 H2=H3 at s3 vL Yb vM pC df ⊢
  dsimp only[aJ]
  refine⟨_,rfl,rfl,_,rfl,?_⟩
  refine cW (λz=>absurd z (by simp)) (λ_=>?_)
  refine⟨_,rfl,_,rfl,p,_,_,.ref ya,rfl,rfl,.of vL,au (j:=1) rfl,_,rfl,p,_,_,.ref va,rfl,rfl,.of vL,au (j:=2) rfl,by show 3<=sizeLine;decide,λm hm=>?_⟩
  have sm:=Same.new (o:=.tup [.ref nm,.ref ya,.ref va]) hm
  exact q xs mv m _ (df.trans sm) hl hlm gr ⟨ya,va,ps,af,sm _ _ Yb,sm _ _ vM,pC.keep sm.kt⟩
theorem fb:aO ["_law_base","_law_many","_law_found","_law_turn","_law_more","_law_letter"] ["_law_base","_law_many"] (ah eE):=⟨rfl,rfl,rfl,by decide+kernel,rfl,by decide+kernel,by decide+kernel⟩
theorem zb{a:bR}(T:Txt K mg a):aR P w K mg base bj 1 a.i8 a.ke ["_law_base","_law_many"] vI:=by
 refine T.Ho.ok fb (λvs H Q E h=>?_) (λcdv A outer s H vs Q E hr h=>?_)
 ·obtain⟨b,n,rfl,_⟩:=h
  rfl
 ·obtain⟨b,n,rfl,hb,hn,k⟩:=h
  refine⟨_,(ai (ay (i:=2) fb.nd rfl (Ad rfl) (cf (ae (bf ag) ag)))
  (ai (dg A0 rfl (cj rfl T.cZ (ae (pv 1) ag)) (aH (i:=3) fb.nd rfl (Ad rfl))
   (ai (ay (i:=4) fb.nd rfl (Ad rfl) (cf ag))
   (ai (dg A0 rfl (cH (pv 2)) (aH (i:=5) fb.nd rfl (DK rfl))
    (av (cG (dO Au Cu Cv oM (pv 4) (ae (bN (aG.mk' (esc:=ah eE) (N:=["_law_base","_law_many","_law_found","_law_turn","_law_more","_law_letter"]) (own:=["_law_figure"]) (aI:=["_law_letter"]) (bJ:=[5]) rfl rfl (by decide+kernel)) rfl (cj rfl T.cZ (ae (pv 0) ag)) (λ_ _ _ _=>(aH (i:=0) (show A3 (["_law_figure","_law_letter"]:List Str) by decide+kernel) rfl (Ad rfl))) (λ_ _ _ _=>a_) (λ_ _ _ _=>(aV (mY K) (pv 1) (bf (ae (pv 0) ag))))) ag)))))
   (av (ay (i:=2) fb.nd rfl (Ad rfl) (pv 4))))))
  (av (aQ (pv 2))))),?_⟩
  refine⟨by decide,λp hp=>⟨by show 1<=sizeLine;decide,λD hD=>?_⟩⟩
  have sJ:H D=none:=(Same.new hp).free hD
  refine⟨_,rfl,n,rfl,by omega,by omega,kH (lo:=0) (n:=(n:Int).toNat) (λi σ H'=>∃(D:Addr) (ps:List Addr) (v3 v4 v5:Option V),σ=[some (.int b),some (.int n),some (.ref D),v3,v4,v5]/\H D=none/\Same H H'/\H' D=some (.lst (ps.map V.ref))/\bY H' ps (lets b i))
   ⟨D,[p],none,none,none,rfl,sJ,(Same.new hp).trans (Same.new hD),af,.cons (by rw[ao (ak (o:=.tup []) af hD)];exact af) .nil⟩ ?_ ?_⟩
  ·rintro i σ H1 hi ⟨D,ps,v3,v4,v5,rfl,hD,s1,eD,t1⟩
   rw[Ag] at hi
   have lps:ps.length=b ^ i:=by rw[AX t1,fA]
   have bi:b ^ i<=256:=d4 hb (by omega)
   have bi1:b ^ (i+1)<=256:=d4 hb (by omega)
   refine⟨by decide,λE hE=>?_⟩
   have Mn:H E=none:=s1.free hE
   have yV:D≠E:=ak eD hE
   refine⟨_,rfl,D,rfl,⟨ps.map V.ref,.of (by rw[ao yV];exact eD)⟩,iK (xs:=ps.map V.ref) (λj σ H'=>∃(qs:List Addr) (v5:Option V),σ=[some (.int b),some (.int n),some (.ref D),some (.int (0+(i:Int))),some (.ref E),v5]/\
     Same H H'/\H' D=some (.lst (ps.map V.ref))/\bY H' ps (lets b i)/\H' E=some (.lst (qs.map V.ref))/\bY H' qs (((lets b i).take j).flatMap λl=>(BM b).map λ(f:Nat)=>l++[(f:Int)]))
    ⟨[],v5,rfl,s1.trans (Same.new hE),by rw[ao yV];exact eD,t1.keep (Same.new hE).kt,af,.nil⟩ (λj σ H' _ ⟨_,_,_,_,h,_⟩=>.of h) ?_ ?_⟩
   ·rintro j y σ H2 hj ⟨qs,v5,rfl,s2,pe,t2,ph,u2⟩
    rw[AW] at hj
    cases ep:ps[j]? with
    | none=>rw[ep] at hj;cases hj
    | some p=>
     rw[ep] at hj
     have ey:y=.ref p:=(AS hj).symm
     subst ey
     obtain⟨l,el,hl⟩:=t2.get ep
     have jlt:j<ps.length:=(AF.mp ep).1
     refine⟨_,rfl,.inl ⟨rfl,_,.of ph⟩,_,rfl,b,rfl,by omega,by omega,λC hC=>?_⟩
     have nEC:E≠C:=ak ph hC
     have nDC:D≠C:=ak pe hC
     refine dZ (λf σ H'=>∃(rs:List Addr) (v:Option V),σ=[v,some (.ref p)]/\Same H2 H'/\H' C=some (.lst (rs.map V.ref))/\bY H' rs ((BM f).map λ(f:Nat)=>l++[(f:Int)]))
      ⟨[],none,rfl,Same.new hC,af,.nil⟩ ?_ ?_
     ·rintro f σ H3 hf ⟨rs,v,rfl,s3,mF,t3⟩
      refine⟨_,rfl,_,rfl,by show 1<=sizeLine;decide,λq hq=>?_⟩
      have lrs:rs.length=f:=by rw[AX t3];simp
      have yW:C≠q:=ak mF hq
      have ll:l.length=i:=kf b i l (AL el)
      have e0:(0:Int)+(f:Int)=(f:Int):=by omega
      have hq2:H2 q=none:=s3.free hq
      have Mp:(rs.map V.ref).length<sizeLine:=by rw[AB,lrs];exact AY (show f<10 by omega) (by decide)
      have s4:Same H2 (upd H3 q (.tup [.int (0+(f:Int))])):=s3.trans (Same.new hq)
      have t4:=t3.keep (Same.new (o:=.tup [.int (0+(f:Int))]) hq).kt
      refine⟨p,q,l.map V.int,[.int (0+(f:Int))],rfl,rfl,.of (s4 _ _ hl),.of af,by simp,?_,λhl0=>?_,λhl0 r hr=>?_⟩
      ·rw[AB,ll];exact BB (show i+1<=10 by omega) (by decide)
      ·have hl1:l=[]:=by cases l with | nil=>rfl | cons _ _=>cases hl0
       subst hl1
       have kg:(upd H3 q (.tup [.int (0+(f:Int))])) C=some (.lst (rs.map V.ref)):=by rw[ao yW];exact mF
       refine⟨rs.map V.ref,kg,Mp,rs++[q],_,rfl,?_,by rw[af,AJ];rfl,?_⟩
       ·exact s4.kbn hC KB.write
       ·rw[DJ,AJ]
        refine bA (t4.keep (aW.lst kg)) (.cons (aW.lst kg _ _ ?_) .nil)
        rw[af]
        simp
      ·have Up:C≠r:=ak (by rw[ao yW];exact mF) hr
       have kg:(upd (upd H3 q (.tup [.int (0+(f:Int))])) r (.tup (l.map V.int++[.int (0+(f:Int))]))) C=some (.lst (rs.map V.ref)):=by rw[ao Up,ao yW];exact mF
       refine⟨rs.map V.ref,kg,Mp,rs++[r],_,rfl,?_,by rw[af,AJ];rfl,?_⟩
       ·exact(s4.trans (Same.new hr)).kbn hC KB.write
       ·rw[DJ,AJ]
        refine bA ((t4.keep (Same.new hr).kt).keep (aW.lst kg)) (.cons (aW.lst kg _ _ ?_) .nil)
        rw[af]
        simp
     ·rintro σ H3 ⟨rs,v,rfl,s3,mF,t3⟩
      have lrs:rs.length=b:=by rw[AX t3];simp
      have Uq:qs.length<=1024:=by
       rw[AX u2,yU,Ao]
       have:=Gq (show min j (lets b i).length<=256 by rw[fA];omega) hb
       omega
      have Mq:=s3 _ _ ph
      refine⟨E,C,qs.map V.ref,rs.map V.ref,rfl,rfl,Mq,mF,?_,?_⟩
      ·rw[AB,AB,lrs];exact BB (show qs.length+b<=2000 by omega) (by decide)
      ·have kt:=aW.lst (o:=.lst (qs.map V.ref++rs.map V.ref)) Mq
       refine⟨qs++rs,_,rfl,(s2.trans s3).kbn Mn KB.write,?_,(t2.keep s3.kt).keep kt,?_,?_⟩
       ·rw[ao yV];exact s3 _ _ pe
       ·rw[af,AJ]
       ·have e1:(lets b i).take (j+1)=(lets b i).take j++[l]:=by rw[Co,el];rfl
        rw[e1,Es]
        refine bA ((u2.keep s3.kt).keep kt) ?_
        rw[GB]
        have:=t3.keep kt
        rwa [show((b:Nat):Int).toNat=b from Ag b] at this
   ·rintro σ H2 ⟨qs,v5,rfl,s2,pe,t2,ph,u2⟩
    refine⟨_,rfl,E,qs,_,_,_,rfl,Mn,s2,ph,?_⟩
    have e1:(lets b i).take (ps.map V.ref).length=lets b i:=by rw[AB,AX t2];exact Ax ..
    rw[e1] at u2
    exact u2
  ·rintro σ H1 ⟨D,ps,v3,v4,v5,rfl,hD,s1,eD,t1⟩
   exact⟨_,rfl,k D ps H1 hD s1 eD (by rwa [Ag] at t1)⟩
def OP{P:Ak}{w:World}{α:Type}(R:jK P w α)(many:Nat)(on:α->Nat->α)(Ok:α->Prop)(Ev:Hp->Prop)(f1:Addr):Sp:=λvs H Q _=>∃(x0:α) (v0:V) (most:Nat),vs=[v0,.int many,.ref f1,.int most]/\R.Rep x0 v0 H/\Ok x0/\Ev H/\1<=most/\most<=10000/\many<=1000/\
 (∀(xs:List α) (H':Hp),Same H H'->xs.Nodup->(∀x∈xs,∃w,dJ many w/\x=fz on x0 w)->most<xs.length->Q .non H')/\
 ∀(xs:List α) (mv:List (List Nat)) (vs:List V) (p Rr va:Addr) (ps:List Addr) (H':Hp),Same H H'->H Rr=none->mv.length=xs.length->xs.length<=most->cn x0 on many xs mv->H' p=some (.tup [.ref Rr,.ref va])->H' Rr=some (.lst vs)->g7 R H' vs xs->H' va=some (.tup (ps.map V.ref))->bY H' ps (mv.map aD)->Q (.ref p) H'
theorem fB:aO ["_law_first","_law_many","_law_onward","_law_most","_law_came","_law_numbers","_law_moves","_law_found","_law_k","_law_room"] ["_law_first","_law_many","_law_onward","_law_most"] (ah ia):=⟨rfl,rfl,rfl,by decide+kernel,rfl,by decide+kernel,by decide+kernel⟩
set_option maxHeartbeats 16000000 in
theorem Kf{a:bR}(T:Txt K mg a){α:Type}(R:jK P w α){many:Nat}{on:α->Nat->α}{Ok:α->Prop}{Ev:Hp->Prop}{f1:Addr}{k:Nat}
  (F1:FnAt P w K mg base k f1 2 (ui R many on Ok Ev)) (Mu:∀x a,Ok x->a<many->Ok (on x a)) (yY:∀H H',Ev H->Same H H'->Ev H'):
  aR P w K mg base bj (k+1) a.lh a.ny ["_law_first","_law_many","_law_onward","_law_most"] (OP R many on Ok Ev f1):=by
 obtain⟨o1,fd1,ps1,ho1,hf1,hl1,hb1,G1⟩:=F1
 refine T.Me.ok fB (λvs H Q E h=>?_) (λcdv Ar outer sh H vs Q E hr h=>?_)
 ·obtain⟨x0,v0,most,rfl,_⟩:=h
  rfl
 ·obtain⟨x0,v0,most,rfl,r0,k0,I_,hm1,hbm,Xi,q0,q⟩:=h
  refine⟨_,(ai (ay (i:=4) fB.nd rfl (Ad rfl) (cf (ae (pv 0) ag)))
  (ai (ay (i:=5) fB.nd rfl (Ad rfl) (R.t8 (ck hr) (pv 0) aj rfl rfl))
  (ai (ay (i:=6) fB.nd rfl (Ad rfl) (cf ag))
  (ai (fN A0 (bx Pm (aL (bu K) (by rfl) T.cF bW (ae (pv 6) ag)) (aL (bu K) (by rfl) T.cF bW (ae (pv 4) ag)) (bD _))
   (ai (ay (i:=7) fB.nd rfl (Ad rfl) (cf ag))
   (ai (dg A0 rfl (cj rfl T.cZ (ae (pv 1) ag)) (aH (i:=8) fB.nd rfl (Ad rfl))
    (ai (ay (i:=9) fB.nd rfl (Ad rfl) (qH (i:=2) G1 ho1 hf1 hr hb1 rfl (Ad rfl) (ae (aB (cP K) (pv 4) (aL (bu K) (by rfl) T.cF bW (ae (pv 6) ag)) (λ_ _=>rfl)) (ae (pv 8) ag))))
    (ai (dN (KI (vy (P:=P) (w:=w) (ck hr) (pv 9) (pv 5)) (by with_unfolding_all rfl))
     (ai (IP (P:=P) (w:=w) (ck hr) (pv 5) (pv 9) (aL (bu K) (by rfl) T.cF bW (ae (pv 4) ag)) rfl)
     (av (cG (dO Au A_ A' cy (pv 4) (ae (pv 9) ag)))))
     cp)
    (av (cG (dO Au A_ A' cy (pv 7) (ae (IM (P:=P) (w:=w) (ck hr) (pv 5) (pv 9) (λ_ _=>rfl)) ag)))))))
   (ai (cG (dO Au A_ A' cy (pv 6) (ae (bF (bG K) (by rfl) T.b_ bS (ae (pv 7) ag)) ag)))
   (av (dN (bx pS (aL (bu K) (by rfl) T.cF bW (ae (pv 4) ag)) (pv 3) (bD _))
    (av (aQ ie))
    cp))))))
  (av (aQ (bf (ae (pv 4) (ae (bF (bG K) (by rfl) T.b_ bS (ae (pv 6) ag)) ag))))))))),?_⟩
  have big:(100000:Nat)<=sizeLine:=by decide
  have xo:∀(w:List Nat) (x:α),Ok x->dJ many w->Ok (fz on x w):=by
   intro w
   induction w with
   | nil=>intro x hx _;exact hx
   | cons c w ih=>intro x hx hw;exact ih _ (Mu x c hx (hw c AZ)) λz hz=>hw z (AV _ hz)
  refine aN λY hY=>?_
  refine⟨_,rfl,by show 1<=sizeLine;omega,λRr hR=>?_⟩
  have sR:=Same.new (o:=.lst [v0]) hR
  dsimp only[aJ]
  subst hY
  refine aN λY hY=>?_
  refine⟨x0,v0,rfl,R.same r0 sR.kt,λD H2 hD s2 num=>?_⟩
  have Mv:H2 Rr=some (.lst [v0]):=s2 _ _ af
  have sJ:H D=none:=sR.free hD
  have DR:Rr≠D:=ak (show(upd H Rr (.lst [v0])) Rr=some (.lst [v0]) from af) hD
  dsimp only[aJ]
  subst hY
  refine aN λY hY=>?_
  refine⟨by show 0<=sizeLine;omega,λM hM=>?_⟩
  have sM:=Same.new (o:=.lst []) hM
  have PX:H M=none:=sR.free (s2.free hM)
  have MR:M≠Rr:=(ak Mv hM).symm
  obtain⟨oD,Ur,_,_⟩:=R.isD num
  have MD:M≠D:=(ak Ur hM).symm
  have vJ:=(sR.trans s2).trans sM
  dsimp only[aJ]
  subst hY
  refine aN λY hY=>?_
  refine p7 (λm σ H'=>∃(xs:List α) (mv:List (List Nat)) (vs:List V) (ps:List Addr) (v7 v8 v9:Option V),xs.length<=most/\m=most+1-mv.length/\σ=[some v0,some (.int (many:Nat)),some (.ref f1),some (.int (most:Nat)),some (.ref Rr),some (.ref D),some (.ref M),v7,v8,v9]/\Same H H'/\
    H' Rr=some (.lst vs)/\g7 R H' vs xs/\R.Num H' D xs/\H' M=some (.lst (ps.map V.ref))/\bY H' ps (mv.map aD)/\cn x0 on many xs mv/\mv.length<=xs.length)
   ⟨_,[x0],[],[v0],[],none,none,none,hm1,rfl,rfl,vJ,sM _ _ Mv,.cons (R.same r0 vJ.kt) .nil,R.keep num (ao MD.symm),af,.nil,cn.begin,by simp⟩ ?_ ?_
  ·rintro m σ H4 N hN ⟨xs,mv,vs,ps,v7,v8,v9,lx,rfl,rfl,s4,eR,rp,nm,eM,tp,g,hl⟩
   have I0:vs.length=xs.length:=AX rp
   have lps:ps.length=mv.length:=by rw[AX tp,AB]
   refine⟨_,rfl,_,ps.length,rfl,.inl ⟨_,.of eM,by rw[AB]⟩,_,rfl,_,vs.length,rfl,.inl ⟨_,.of eR,rfl⟩,_,_,rfl,rfl,_,rfl,?_⟩
   by_cases hlt:mv.length<xs.length
   ·rw[show decide (((ps.length:Nat):Int)<((vs.length:Nat):Int))=true from decide_eq_true (by omega)]
    refine iL ?_
    refine aN λY2 jn=>?_
    obtain⟨x,ex⟩:∃x,xs[mv.length]? =some x:=⟨_,As hlt⟩
    have yZ:=g.reach x (AL ex)
    have okx:Ok x:=by obtain⟨w,hw,ew⟩:=yZ;rw[ew];exact xo w x0 k0 hw
    refine⟨by show 0<=sizeLine;omega,λL hL=>?_⟩
    have sL:=Same.new (o:=.lst []) hL
    have hL0:H L=none:=s4.free hL
    have LR:L≠Rr:=(ak eR hL).symm
    have LM:L≠M:=(ak eM hL).symm
    obtain⟨oD4,OI,_,_⟩:=R.isD nm
    have LD:L≠D:=(ak OI hL).symm
    dsimp only[aJ]
    subst jn
    refine aN λY2 jn=>?_
    refine⟨_,rfl,_,rfl,by omega,by omega,m9 (n:=(many:Int).toNat) (λj σ H'=>∃(ys:List α) (us:List V) (leads:List Nat) (v8 v9:Option V),σ=[some v0,some (.int (many:Nat)),some (.ref f1),some (.int (most:Nat)),some (.ref Rr),some (.ref D),some (.ref M),some (.ref L),v8,v9]/\Same H H'/\aW H4 H'/\
      H' Rr=some (.lst us)/\g7 R H' us ys/\R.Num H' D ys/\H' M=some (.lst (ps.map V.ref))/\H' L=some (.lst ((aD leads).map V.int))/\leads.length=j/\g6 x0 on many xs x leads ys)
     ⟨xs,vs,[],v8,v9,rfl,s4.trans sL,sL.kt,sL _ _ eR,rp.keep sL.kt,R.keep nm (ao LD.symm),sL _ _ eM,af,rfl,g6.start g⟩ ?_ ?_⟩
    ·rintro j σ H5 N2 Mw hj ⟨ys,us,leads,v8,v9,rfl,s5,vK,qu,pj,px,ou,y_,ll,gr⟩
     have ej:(0:Int)+(j:Int)=((j:Nat):Int):=by omega
     rw[ej]
     have Uu:j<many:=by omega
     have ly:ys.length<=most+1000:=by have:=i_ _ _ _ gr.go;omega
     have Ja:us.length=ys.length:=AX pj
     obtain⟨more,sW⟩:=gr.pre
     obtain⟨vx,Ut,rx⟩:=pj.at (show ys[mv.length]? =some x by rw[sW];exact jT ex)
     dsimp only[aJ]
     refine aN λY3 hY3=>?_
     refine⟨rfl,_,rfl,_,rfl,_,ps.length,rfl,.inl ⟨_,.of ou,by rw[AB]⟩,Rr,_,_,vx,rfl,rfl,.of qu,au (by rw[lps];exact Ut),_,rfl,x,vx,j,rfl,rx,okx,Uu,yY _ _ I_ s5,λto H6 s6 pz=>?_⟩
     have y6:=s6 _ _ qu
     have pA:=s6 _ _ ou
     have Mx:=s6 _ _ y_
     have Mz:=pj.keep s6.kt
     obtain⟨Uv,kh,Uw,MA⟩:=R.isD px
     have sO:=R.keep px ((s6 _ _ kh).trans kh.symm)
     have OJ:=s6 _ _ kh
     have mG:aW H4 H6:=λb l z=>s6 _ _ (vK _ _ z)
     have MB:=s5.trans s6
     dsimp only[aJ]
     subst hY3
     refine ji (t:=oI _ _ _) (u:=Jy _) (λσ H'=>∃(zs:List α) (ws:List V) (t:Nat),σ=[some v0,some (.int (many:Nat)),some (.ref f1),some (.int (most:Nat)),some (.ref Rr),some (.ref D),some (.ref M),some (.ref L),some (.int (j:Nat)),some to]/\Same H H'/\aW H6 H'/\
      H' Rr=some (.lst ws)/\g7 R H' ws zs/\R.Num H' D zs/\H' M=some (.lst (ps.map V.ref))/\H' L=some (.lst ((aD leads).map V.int))/\zs[t]? =some (on x j)/\g6 x0 on many xs x (leads++[t]) zs) ?Ux (λY3 sQ=>?_)
     case Ux=>
      rintro σ H7 ⟨zs,ws,t,rfl,s7,sS,iH,y8,sU,Uy,y9,hz,MC⟩
      refine⟨_,rfl,Ad ⟨rfl,_,.of y9⟩,_,rfl,_,rfl,D,_,rfl,R.there sU (R.same pz sS) MC.once hz,L,_,_,rfl,rfl,y9,by rw[AB,bL];omega,?_⟩
      have kL:aW H7 (upd H7 L (.lst ((aD leads).map V.int++[.int (t:Nat)]))):=jU y9 (λl z=>nomatch z)
      refine Mw _ _ ⟨zs,ws,leads++[t],_,_,rfl,s7.kbn hL0 KB.write,λb l z=>kL _ _ (sS _ _ (mG _ _ z)),by rw[ao LR.symm];exact iH,y8.keep kL,R.keep sU (ao LD.symm),by rw[ao LM.symm];exact Uy,?_,by rw[AG,ll];rfl,MC⟩
      rw[af,cL,AJ];rfl
     by_cases hm:on x j∈ys
     ·obtain⟨i,hi⟩:=BH hm
      refine⟨_,rfl,_,rfl,D,_,rfl,R.there sO pz gr.once hi,_,rfl,?_⟩
      refine dP ?_
      exact sQ _ _ ⟨ys,us,i,rfl,MB,λ_ _ z=>z,y6,Mz,sO,pA,Mx,hi,gr.old (by rw[ll];exact hi)⟩
     ·refine⟨_,rfl,_,rfl,D,_,rfl,R.miss sO pz hm,_,rfl,?_⟩
      refine iL ?_
      obtain⟨H7,OL,pB,sU⟩:=R.put sO pz hm (by omega)
      have ME:=gr.new (by omega) yZ (by rw[ll];exact hm)
      rw[ll] at ME
      have iH:=pB _ _ y6 DR
      refine⟨_,rfl,_,us.length,rfl,.inl ⟨_,.of y6,rfl⟩,_,rfl,_,rfl,D,H7,rfl,by rw[Ja];exact OL,?_⟩
      refine⟨_,rfl,Ad ⟨rfl,_,.of iH⟩,_,rfl,Rr,_,_,rfl,rfl,iH,by omega,?_⟩
      have sS:aW H6 H7:=Ms OJ MA pB
      have kR:aW H7 (upd H7 Rr (.lst (us++[to]))):=jU iH (λl z=>nomatch z)
      have za:aW H6 (upd H7 Rr (.lst (us++[to]))):=λb l z=>kR _ _ (sS _ _ z)
      refine sQ _ _ ⟨ys++[on x j],us++[to],ys.length,rfl,(MB.kbn sJ pB).kbn hR KB.write,za,af,?_,R.keep sU (ao DR.symm),by rw[ao MR];exact pB _ _ pA MD,by rw[ao LR];exact pB _ _ Mx LD,by rw[Aj (AM _),Bz];rfl,ME⟩
      exact i9 (Mz.keep za) (R.same pz za)
    ·rintro σ H5 ⟨ys,us,leads,v8,v9,rfl,s5,vK,qu,pj,px,ou,y_,ll,gr⟩
     subst jn
     dsimp only
     refine aN λY2 jn=>?_
     have Uz:leads.length=many:=by rw[ll];omega
     have g2:=g.next ex gr Uz
     have ly:ys.length<=most+1000:=by have:=i_ _ _ _ gr.go;omega
     obtain⟨more,sW⟩:=gr.pre
     have lxy:xs.length<=ys.length:=by rw[sW,AG];omega
     have Ja:us.length=ys.length:=AX pj
     refine⟨_,rfl,Ad ⟨rfl,_,.of ou⟩,_,rfl,L,_,rfl,.inl ⟨.of y_,λt ht=>?_⟩⟩
     have sT:=Same.new (o:=.tup ((aD leads).map V.int)) ht
     have UA:M≠t:=ak ou ht
     have nRt:Rr≠t:=ak qu ht
     obtain⟨Uv,kh,Uw,MA⟩:=R.isD px
     have UB:D≠t:=ak kh ht
     have pA:=sT _ _ ou
     refine⟨M,_,_,rfl,rfl,pA,by rw[AB];omega,?_⟩
     have kM:aW (upd H5 t (.tup ((aD leads).map V.int))) (upd (upd H5 t (.tup ((aD leads).map V.int))) M (.lst (ps.map V.ref++[.ref t]))):=jU pA (λl z=>nomatch z)
     have kA:aW H5 (upd (upd H5 t (.tup ((aD leads).map V.int))) M (.lst (ps.map V.ref++[.ref t]))):=λb l z=>kM _ _ (sT.kt _ _ z)
     have iH:(upd (upd H5 t (.tup ((aD leads).map V.int))) M (.lst (ps.map V.ref++[.ref t]))) Rr=some (.lst us):=by rw[ao MR.symm];exact sT _ _ qu
     subst jn
     dsimp only
     refine⟨_,rfl,_,us.length,rfl,.inl ⟨_,.of iH,rfl⟩,_,rfl,_,_,rfl,rfl,_,rfl,?_⟩
     by_cases hov:most<ys.length
     ·rw[show decide ((most:Int)<((us.length:Nat):Int))=true from decide_eq_true (by omega)]
      refine iL ?_
      exact q0 ys _ ((s5.trans sT).kbn PX KB.write) gr.once gr.reach hov
     rw[show decide ((most:Int)<((us.length:Nat):Int))=false from decide_eq_false (by omega)]
     refine dP ?_
     refine hN _ _ _ ?_ ⟨ys,mv++[leads],us,ps++[t],_,_,_,by omega,rfl,rfl,(s5.trans sT).kbn PX KB.write,iH,pj.keep kA,R.keep px (by rw[ao MD.symm,ao UB]),by rw[af,AJ];rfl,?_,g2,by rw[AG];simp;omega⟩
     ·rw[AG];simp;omega
     ·rw[AJ]
      exact i9 ((tp.keep vK).keep kA) (by rw[ao UA.symm,af])
   ·have e:mv.length=xs.length:=by omega
    rw[show decide (((ps.length:Nat):Int)<((vs.length:Nat):Int))=false from decide_eq_false (by omega)]
    refine dP ?_
    subst hY
    dsimp only
    refine⟨_,rfl,_,rfl,M,_,rfl,.inl ⟨.of eM,λVa Us=>⟨by show 2<=sizeLine;omega,λp hp=>?_⟩⟩⟩
    have sV:=Same.new (o:=.tup (ps.map V.ref)) Us
    have sP:=Same.new (o:=.tup [.ref Rr,.ref Va]) hp
    have df:=sV.trans sP
    exact q xs mv vs p Rr Va ps _ (s4.trans df) hR e lx g af (df _ _ eR) (rp.keep df.kt) (sP _ _ af) (tp.keep df.kt)
  ·rintro σ H Q Q' h ⟨v,e1,v2,n1,e2,l1,v3,e3,v4,n2,e4,l2,i,j,e5,e6,k,e7,z⟩
   exact⟨v,e1,v2,n1,e2,l1,v3,e3,v4,n2,e4,l2,i,j,e5,e6,k,e7,h _ _ z⟩
def aU(l:List Nat):Str:=⟨(l.map (97+ ·)).toArray⟩
def lO:Str:="abcdefghijklmnopqrstuvwxyz"
theorem zc:lO.length<=sizeLine:=by
 have:lO.length=26:=by decide+kernel
 rw[this];decide
theorem RM:∀c,c<26->Fm lO ⟨#[97+c]⟩ 0 lO.length 1=[c]:=by decide+kernel
theorem MG:∀c,c<26->lO.cps.toList[c]? =some (97+c):=by decide+kernel
theorem ki(a b:List Nat):aU a++aU b=aU (a++b):=by
 show(⟨_⟩:Str)=⟨_⟩
 simp[aU]
theorem fZ(l:List Nat):(aU l).length=l.length:=by
 show(l.map (97+ ·)).toArray.size=_
 rw[Ai,AB]
theorem MH{a b:List Nat}(h:aU a=aU b):a=b:=by
 have h1:(a.map (97+ ·)).toArray=(b.map (97+ ·)).toArray:=congrArg Str.cps h
 have h2:a.map (97+ ·)=b.map (97+ ·):=congrArg HJ h1
 exact(List.map_inj_right (λx y z=>by omega)).mp h2
theorem Hv{l:List Nat}(h:∀c∈l,c<26):(aU l).cps.all (· <128)=true:=by
 unfold aU
 rw[List.all_toArray,Fx,EU]
 intro c hc
 exact decide_eq_true (by have:=h c hc;show 97+c<128;omega)
theorem kj(l:List Nat):oQ (aU l)=aU l.reverse:=by
 show(⟨_⟩:Str)=⟨_⟩
 simp[aU]
theorem MI{l:List Nat}{i x:Nat}(h:(aU l).cps[i]? =some x):∃c,l[i]? =some c/\x=97+c:=by
 have h1:(l.map (97+ ·))[i]? =some x:=by
  rw[<-h]
  show _=(l.map (97+ ·)).toArray[i]?
  rw[Cd]
 rw[AW] at h1
 obtain⟨c,hc,e⟩:=Bh.mp h1
 exact⟨c,hc,e.symm⟩
def cN:List Nat->List Nat×Nat
 | []=>([],1)
 | c::cs=>(((c+(cN cs).2) % 26)::(cN cs).1,(c+(cN cs).2) / 26)
theorem lF:∀l,(cN l).1.length=l.length
 | []=>rfl
 | c::cs=>by rw[cN,A4,A4,lF cs]
theorem nE:∀{l},(∀c∈l,c<26)->(cN l).2<=1
 | [],_=>AM _
 | c::cs,h=>by
  have h1:=nE (l:=cs) λx hx=>h x (AV _ hx)
  have h2:=h c AZ
  show(c+(cN cs).2) / 26<=1
  omega
theorem zf:∀{l},(∀c∈l,c<26)->∀c∈(cN l).1,c<26
 | [],_,c,hc=>by cases hc
 | c::cs,h,x,hx=>by
  rcases Ac.mp (show x∈((c+(cN cs).2) % 26)::(cN cs).1 from hx) with e | e
  ·omega
  ·exact zf (l:=cs) (λy hy=>h y (AV _ hy)) x e
def pE(l:List Nat):List Nat:=((cN l).1++BY (cN l).2 0).take 3
structure i' (l:List Nat):Prop where
 ne:0<l.length
 le:l.length<=3
 lt:∀c∈l,c<26
def rk:List Nat->Nat
 | [a]=>a
 | [a,b]=>26+26*a+b
 | [a,b,c]=>702+676*a+26*b+c
 | _=>0
theorem i'.cases{l:List Nat}(h:i' l):(∃a,l=[a]/\a<26)∨(∃a b,l=[a,b]/\a<26/\b<26)∨∃a b c,l=[a,b,c]/\a<26/\b<26/\c<26:=by
 have h1:=h.ne
 have h2:=h.le
 have h3:=h.lt
 match l,h1,h2,h3 with
 | [a],_,_,h3=>exact .inl ⟨a,rfl,h3 a (by simp)⟩
 | [a,b],_,_,h3=>exact .inr (.inl ⟨a,b,rfl,h3 a (by simp),h3 b (by simp)⟩)
 | [a,b,c],_,_,h3=>exact .inr (.inr ⟨a,b,c,rfl,h3 a (by simp),h3 b (by simp),h3 c (by simp)⟩)
 | _::_::_::_::_,_,h2,_=>simp at h2
theorem UE{l:List Nat}(h:i' l):rk (pE l) % 17576=(rk l+1) % 17576:=by
 rcases h.cases with⟨a,rfl,ha⟩ | ⟨a,b,rfl,ha,hb⟩ | ⟨a,b,c,rfl,ha,hb,hc⟩
 ·have e:(a+1) / 26=0∨(a+1) / 26=1:=by omega
  have E:pE [a]=([(a+1) % 26]++BY ((a+1) / 26) 0).take 3:=rfl
  rcases e with e | e<;>rw[E,e]
  ·show((a+1) % 26) % 17576=(a+1) % 17576
   omega
  ·show(26+26*((a+1) % 26)+0) % 17576=(a+1) % 17576
   omega
 ·have e:(a+(b+1) / 26) / 26=0∨(a+(b+1) / 26) / 26=1:=by omega
  have E:pE [a,b]=([(a+(b+1) / 26) % 26,(b+1) % 26]++BY ((a+(b+1) / 26) / 26) 0).take 3:=rfl
  rcases e with e | e<;>rw[E,e]
  ·show(26+26*((a+(b+1) / 26) % 26)+(b+1) % 26) % 17576=(26+26*a+b+1) % 17576
   omega
  ·show(702+676*((a+(b+1) / 26) % 26)+26*((b+1) % 26)+0) % 17576=(26+26*a+b+1) % 17576
   omega
 ·have e:(a+(b+(c+1) / 26) / 26) / 26=0∨(a+(b+(c+1) / 26) / 26) / 26=1:=by omega
  have E:pE [a,b,c]=([(a+(b+(c+1) / 26) / 26) % 26,(b+(c+1) / 26) % 26,(c+1) % 26]++BY ((a+(b+(c+1) / 26) / 26) / 26) 0).take 3:=rfl
  have G:rk [(a+(b+(c+1) / 26) / 26) % 26,(b+(c+1) / 26) % 26,(c+1) % 26] % 17576=(702+676*a+26*b+c+1) % 17576:=by
   show(702+676*((a+(b+(c+1) / 26) / 26) % 26)+26*((b+(c+1) / 26) % 26)+(c+1) % 26) % 17576=_
   omega
  rcases e with e | e<;>rw[E,e]<;>exact G
theorem OQ{l:List Nat}(h:i' l):i' (pE l):=by
 have h1:=lF l
 have h0:=h.ne
 refine⟨?_,?_,λc hc=>?_⟩
 ·rw[pE,Ao,AG,h1];omega
 ·rw[pE,Ao];omega
 ·rcases Ab.mp (CH hc) with z | z
  ·exact zf h.lt c z
  ·rw[(List.mem_replicate.mp z).2];decide
theorem UG(l:List Nat)(h0:0<l.length)(h:l.length<=4):Txt.slice (aU l) none (some 3)=aU (l.take 3):=by
 match l,h0,h with
 | [a],_,_=>with_unfolding_all rfl
 | [a,b],_,_=>with_unfolding_all rfl
 | [a,b,c],_,_=>with_unfolding_all rfl
 | [a,b,c,d],_,_=>with_unfolding_all rfl
theorem Kg(n:Nat)(h:n<=1):Txt.mul "a" (n:Int)=aU (BY n 0):=by
 match n,h with
 | 0,_=>with_unfolding_all rfl
 | 1,_=>with_unfolding_all rfl
theorem UH(l:List Nat)(h:l.length<=3):Txt.join "" (l.map λc=>aU [c])=aU l:=by
 match l,h with
 | [],_=>with_unfolding_all rfl
 | [a],_=>with_unfolding_all rfl
 | [a,b],_=>with_unfolding_all rfl
 | [a,b,c],_=>with_unfolding_all rfl
 | _::_::_::_::_,h=>simp at h
def RN:Sp:=λvs H Q _=>∃l:List Nat,vs=[.str (aU l)]/\i' l/\Q (.str (aU (pE l))) H
theorem d6:aO ["_law_word","_law_letters_here","_law_found","_law_more","_law_sign","_law_number"] ["_law_word"] (ah hV):=⟨rfl,rfl,rfl,by decide+kernel,rfl,by decide+kernel,by decide+kernel⟩
theorem Kh{a:bR}(T:Txt K mg a):aR P w K mg base bj 1 a.kX a.nj ["_law_word"] RN:=by
 refine T.L4.ok d6 (λvs H Q E h=>?_) (λcdv A outer s H vs Q E hr h=>?_)
 ·obtain⟨l,rfl,_⟩:=h
  rfl
 ·obtain⟨l,rfl,hw,k⟩:=h
  refine⟨_,(ai (ay (i:=1) d6.nd rfl (Ad rfl) bH)
  (ai (ay (i:=2) d6.nd rfl (Ad rfl) bH)
  (ai (ay (i:=3) d6.nd rfl (Ad rfl) aj)
  (ai (dg A0 rfl (Tw (Ri (pv 0) hG hG (jR (xk rF aj)))) (aH (i:=4) d6.nd rfl (Ad rfl))
   (ai (ay (i:=5) d6.nd rfl (Ad rfl) (aV dX (dO EL Fz PySem.F.type_str_index NY (pv 1) (ae (pv 4) ag)) (pv 3)))
   (ai (ay (i:=2) d6.nd rfl (Ad rfl) (aV rH (aB KY (pv 1) (aV dQ (pv 5) aj) (λ_ _=>rfl)) (pv 2)))
   (av (ay (i:=3) d6.nd rfl (Ad rfl) (aV iN (pv 5) aj))))))
  (av (aQ (mS Tb (aV rH (pv 2) (aV Rj bH (pv 3))) hG (jR aj)))))))),?_⟩
  have lw:=fZ l
  have le3:=hw.le
  have big:(100:Nat)<=sizeLine:=by decide
  dsimp only[lJ,xx,tC,aJ]
  refine⟨_,rfl,_,rfl,_,rfl,aU l,rfl,rfl,rfl,rfl,by omega,oQ (aU l),rfl,?asc,Rh (λi σ H'=>∃v4 v5:Option V,σ=[some (.str (aU l)),some (.str lO),some (.str (aU (cN (l.drop (l.length-i))).1)),some (.int ((cN (l.drop (l.length-i))).2:Nat)),v4,v5]/\H'=H)
   ⟨none,none,?st,rfl⟩ ?_ ?_⟩
  case asc=>rw[kj];exact Hv λc hc=>hw.lt c (DZ.mp hc)
  case st=>rw[Ha,List.drop_length];rfl
  ·rintro i x σ H1 hx ⟨v4,v5,rfl,rfl⟩
   rw[kj] at hx
   obtain⟨c,hc,rfl⟩:=MI hx
   have hi:i<l.length:=by have:=(AF.mp hc).1;rwa [B8] at this
   rw[DL hi] at hc
   have ZO:=hw.lt c (AL hc)
   have ed:l.drop (l.length-(i+1))=c::l.drop (l.length-i):=by
    have h1:l.length-(i+1)=l.length-1-i:=by omega
    have h2:l.length-i=l.length-1-i+1:=by omega
    rw[h1,h2]
    exact List.drop_eq_getElem?_toList_append.trans (by rw[hc];rfl)
   have hm:=nE (l:=l.drop (l.length-i)) λx hx=>hw.lt x (List.mem_of_mem_drop hx)
   have hlen:=lF (l.drop (l.length-i))
   rw[Fe] at hlen
   have ea:cN (c::l.drop (l.length-i))=(((c+(cN (l.drop (l.length-i))).2) % 26)::(cN (l.drop (l.length-i))).1,(c+(cN (l.drop (l.length-i))).2) / 26):=rfl
   rw[ed,ea]
   generalize cN (l.drop (l.length-i))=g at hm hlen ⊢
   have eN:((c:Int)+(g.2:Int)) % 26=(((c+g.2) % 26:Nat):Int):=by rw[Dd,Int.natCast_add];rfl
   have eD:((c:Int)+(g.2:Int)) / 26=(((c+g.2) / 26:Nat):Int):=by rw[C7,Int.natCast_add];rfl
   refine⟨_,rfl,rfl,_,rfl,lO,⟨#[97+c]⟩,c,[],rfl,rfl,RM c ZO,_,rfl,_,_,rfl,rfl,?_⟩
   refine⟨_,rfl,_,rfl,_,_,rfl,rfl,cpos (by decide),lO,_,97+(c+g.2) % 26,rfl,rfl,zc,by rw[eN];exact au (MG _ (D4 _ (by decide))),_,rfl,_,_,rfl,rfl,?len,_,rfl,_,_,rfl,rfl,⟨by decide,by decide⟩,?_⟩
   case len=>
    have e1:Str.length (⟨#[97+(c+g.2) % 26]⟩:Str)=1:=rfl
    rw[e1,fZ]
    omega
   refine⟨some (.str ⟨#[97+c]⟩),some (.int ((c:Int)+(g.2:Int))),?_,rfl⟩
   show[some (V.str (aU l)),some (V.str lO),some (V.str ((⟨#[97+(c+g.2) % 26]⟩:Str)++aU g.1)),some (V.int (((c:Int)+(g.2:Int)) / 26)),some (V.str ⟨#[97+c]⟩),some (V.int ((c:Int)+(g.2:Int)))]=_
   have e2:(⟨#[97+(c+g.2) % 26]⟩:Str)++aU g.1=aU (((c+g.2) % 26)::g.1):=ki [(c+g.2) % 26] g.1
   rw[e2,eD]
  ·rintro σ H1 ⟨v4,v5,rfl,rfl⟩
   have es:(oQ (aU l)).cps.size=l.length:=by
    rw[kj]
    exact(fZ _).trans B8
   rw[es,Bz,Gs]
   have hm:=nE hw.lt
   have hlen:=lF l
   have h0:=hw.ne
   have ef:pE l=((cN l).1++BY (cN l).2 0).take 3:=rfl
   rw[ef] at k
   generalize cN l=g at hm hlen k ⊢
   refine⟨_,rfl,_,rfl,"a",(g.2:Int),rfl,rfl,by omega,by omega,(by show 1<=1000;decide),_,_,rfl,rfl,?len,_,rfl,_,rfl,?len2,?_⟩
   case len=>
    rw[Kg _ hm,fZ,fZ,Bu]
    omega
   case len2=>
    rw[Kg _ hm,ki,fZ,AG,Bu]
    omega
   rw[Kg _ hm,ki,UG _ (by rw[AG];omega) (by rw[AG,Bu];omega)]
   exact k
theorem RO(l:List Str):(l.map V.str).all ip=true:=by rw[Fx];exact EU.mpr λ_ _=>rfl
theorem bK.iF{H:Hp}{F L N:Addr}(h:bK H F L)(e:H N=none):N≠F/\N≠L:=by
 obtain⟨ms,n,sd,a,b,_⟩:=h.ex
 exact⟨(ak a e).symm,(ak b e).symm⟩
theorem bK.lo{H H':Hp}{F L N:Addr}(h:bK H' F L)(k:cm F L H H')(e:H' N=none):H N=none:=by
 obtain⟨n1,n2⟩:=h.iF e
 cases z:H N with
 | none=>rfl
 | some o=>have:=k N o z n1 n2;rw[e] at this;cases this
theorem bK.upd{H:Hp}{F L N:Addr}{o:HO}(h:bK H F L)(n:N≠F/\N≠L):bK (upd H N o) F L:=by
 obtain⟨ms,m,sd,a,b,c⟩:=h.ex
 exact⟨ms,m,sd,by rw[ao n.1.symm];exact a,by rw[ao n.2.symm];exact b,c⟩
theorem cm.lP{H H':Hp}{F L N:Addr}{o:HO}(k:cm F L H H')(e:H N=none):cm F L H (upd H' N o):=λb p h n m=>by
 rw[ao (ak h e)]
 exact k b p h n m
theorem UI{T:(Bool->Hp->Prop)->Prop}{Qf:Bool->Hp->Prop}{c:Bool}(S:Hp->Prop)(h:∀Qc:Bool->Hp->Prop,(∀H',S H'->Qc c H')->T Qc)(x:∀H',S H'->Qf c H'):T Qf:=h Qf x
def i5:List Str:=["and","not","or"]
structure mH (ss:List Str):Prop where
 once:ss.Nodup
 words:∀s∈ss,∃l,i' l/\s=aU l
 no:∀s∈ss,s ∉ i5
theorem mH.perm{ss rs:List Str}(h:mH ss)(p:rs.Perm ss):mH rs:=⟨p.nodup_iff.mpr h.once,λs hs=>h.words s (p.mem_iff.mp hs),λs hs=>h.no s (p.mem_iff.mp hs)⟩
structure Met (B:List Str)(l:List Nat)(vis:List Str):Prop where
 once:vis.Nodup
 sub:∀v∈vis,v∈B
 ex:∃r0,rk l % 17576=(r0+vis.length) % 17576/\∀(j:Nat) (v:Str),vis[j]? =some v->∃l',v=aU l'/\rk l' % 17576=(r0+j) % 17576
theorem Met.step{B:List Str}{l:List Nat}{vis:List Str}(h:Met B l vis)(hw:i' l)(hB:B.length<=20)(hl:aU l∈B):Met B (pE l) (vis++[aU l]):=by
 obtain⟨r0,h1,h2⟩:=h.ex
 have len:=jg h.once h.sub
 have fresh:aU l ∉ vis:=λz=>by
  obtain⟨j,hj⟩:=BH z
  obtain⟨l',e,e2⟩:=h2 j _ hj
  rw[<-MH e,h1] at e2
  have:=(AF.mp hj).1
  omega
 refine⟨?_,λv hv=>?_,r0,?_,λj v hj=>?_⟩
 ·rw[B7]
  exact⟨h.once,by simp,λa ha b hb e=>fresh (by rw[<-AR.mp hb,<-e];exact ha)⟩
 ·rcases Ab.mp hv with z | z
  ·exact h.sub v z
  ·rw[AR.mp z];exact hl
 ·rw[UE hw,AG]
  show(rk l+1) % 17576=(r0+(vis.length+1)) % 17576
  omega
 ·by_cases lt:j<vis.length
  ·rw[An lt] at hj
   exact h2 j v hj
  ·have hl2:=(AF.mp hj).1
   rw[AG] at hl2
   have hl3:j<vis.length+1:=hl2
   have e:j=vis.length:=by omega
   subst e
   rw[Aj (AM _),Bz] at hj
   have e2:aU l=v:=AS hj
   exact⟨l,e2.symm,h1⟩
def RP:Sp:=λvs H Q _=>∃(F L:Addr) (m:Nat),vs=[.ref F,.int m]/\bK H F L/\m<=6/\
 ∀(D:Addr) (ss:List Str) (H':Hp),H D=none->cm F L H H'->bK H' F L->H' D=some (.tup (ss.map V.str))->ss.length=m->mH ss->Bm ss=true->Q (.ref D) H'
theorem gk:aO ["_law_feed_here","_law_many","_law_found","_law_k","_law_signs","_law_word"] ["_law_feed_here","_law_many"] (ah fg):=⟨rfl,rfl,rfl,by decide+kernel,rfl,by decide+kernel,by decide+kernel⟩
theorem sX{a:bR}(T:Txt K mg a):aR P w K mg base bj 2 a.kY a.nq ["_law_feed_here","_law_many"] RP:=by
 have aX:=ib (P:=P) (w:=w) (base:=base) T
 have MJ:=Kh (P:=P) (w:=w) (base:=base) T
 refine T.L8.ok gk (λvs H Q E h=>?_) (λcdv A outer s H vs Q E hr h=>?_)
 ·obtain⟨F,L,m,rfl,_⟩:=h
  rfl
 ·obtain⟨F,L,m,rfl,hf,hm,k⟩:=h
  have aS:aP 1 _:=hr
  have Ki:aP 1 _:=hr
  refine⟨_,(ai (ay (i:=2) gk.nd rfl (Ad rfl) (cf ag))
  (ai (dg A0 rfl (cj rfl T.cZ (ae (pv 1) ag)) (aH (i:=3) gk.nd rfl (Ad rfl))
   (ai (gc (i:=4) (aG.mk' (esc:=ah fg) (N:=["_law_feed_here","_law_many","_law_found","_law_k","_law_signs","_law_word"]) (own:=["_law_sign"]) (aI:=["_law_feed_here"]) (bJ:=[0]) rfl rfl (by decide+kernel)) rfl (cj rfl T.cZ (ae (aV dX aj (aA aX aS rfl T.bo T.bp T.bq .nil aK (ae (pv 0) (ae aj ag)))) ag)) (λ_ _ _ _=>(aH (i:=0) (show A3 (["_law_sign","_law_feed_here"]:List Str) by decide+kernel) rfl (Ad rfl))) (λ_ _ _ _=>a_) (λ_ _ _ _=>(aA aX aS rfl T.bo T.bp T.bq .nil aK (ae (pv 1) (ae aj ag)))) gk.nd rfl rfl)
   (ai (ay (i:=5) gk.nd rfl (Ad rfl) (dO EL PySem.F.slot_str_join PySem.F.type_str_join (NK K) bH (ae (bN (aG.mk' (esc:=ah fg) (N:=["_law_feed_here","_law_many","_law_found","_law_k","_law_signs","_law_word"]) (own:=["_law_sign"]) (aI:=[]) (bJ:=[]) rfl rfl (by decide+kernel)) rfl (cH (pv 4)) (λ_ _ _ _=>(aH (i:=0) (show A3 (["_law_sign"]:List Str) by decide+kernel) rfl (Ad rfl))) (λ_ _ _ _=>a_) (λ_ _ _ _=>(aB KY bH (pv 0) (λ_ _=>rfl)))) ag)))
   (ai (fN A0 (PW.pt (rD (bx (xR K) (pv 5) (pv 2) (by with_unfolding_all rfl)) (oH (bx (xR K) (pv 5) (bf (ae bH (ae bH (ae bH ag)))) (by with_unfolding_all rfl)))))
    (av (ay (i:=5) gk.nd rfl (Ad rfl) (aA MJ Ki rfl T.L5 T.L6 T.L7 .nil aK (ae (pv 5) ag)))))
   (av (cG (dO Au A_ A' cy (pv 2) (ae (pv 5) ag))))))))
  (av (aQ (bF (bG K) (by rfl) T.b_ bS (ae (aL (zZ K) (by rfl) T.qZ oN (ae (pv 2) ag)) ag)))))),?_⟩
  have p3:(3:Nat)<2 ^ 1000:=AY (show 3<2 ^ 2 by decide) (BR (by decide) (by decide))
  have p26:(26:Nat)<2 ^ 1000:=AY (show 26<2 ^ 6 by decide) (BR (by decide) (by decide))
  have big:(100:Nat)<=sizeLine:=by decide
  refine⟨by decide,λN hN=>?_⟩
  have nN:=hf.iF hN
  refine⟨_,rfl,_,rfl,by omega,by omega,kH (n:=(m:Int).toNat) (λi σ H'=>∃(fs:List Str) (v3 v4 v5:Option V),σ=[some (.ref F),some (.int (m:Nat)),some (.ref N),v3,v4,v5]/\cm F L H H'/\bK H' F L/\H' N=some (.lst (fs.map V.str))/\fs.length=i/\mH fs)
   ⟨[],none,none,none,rfl,(Same.new hN).kb2,hf.same (Same.new hN),af,rfl,⟨Gm,λs hs=>(by cases hs),λs hs=>(by cases hs)⟩⟩ ?_ ?_⟩
  ·rintro i σ H1 hi ⟨fs,v3,v4,v5,rfl,k1,f1,n1,lf,ok⟩
   rw[Ag] at hi
   refine⟨_,rfl,F,L,3,rfl,f1,by decide,p3,λt H2 t1 k2 f2=>⟨_,_,rfl,rfl,_,rfl,by omega,by omega,λC hC=>?_⟩⟩
   have n2:=k2 _ _ n1 nN.1 nN.2
   have nC:=f2.iF hC
   have nNC:N≠C:=ak n2 hC
   refine dZ (λj σ H'=>∃(rs:List Nat) (v:Option V),σ=[v,some (.ref F)]/\cm F L H2 H'/\bK H' F L/\H' C=some (.lst (rs.map λr=>V.int (r:Nat)))/\rs.length=j/\∀r∈rs,r<26)
    ⟨[],none,rfl,(Same.new hC).kb2,f2.same (Same.new hC),af,rfl,λr hr=>(by cases hr)⟩ ?_ ?_
   ·rintro j σ H3 hj ⟨rs,v,rfl,k3,f3,c3,lr,hrs⟩
    refine⟨_,rfl,F,L,26,rfl,f3,by decide,p26,λr H4 r1 k4 f4=>?_⟩
    have c4:=k4 _ _ c3 nC.1 nC.2
    refine⟨_,c4,?_,rs++[r],_,rfl,cm.lP (k3.trans k4) hC,f4.upd nC,?_,?_,λx hx=>?_⟩
    ·rw[AB];omega
    ·rw[af,AJ];rfl
    ·rw[AG,lr];rfl
    ·rcases Ab.mp hx with z | z
     ·exact hrs x z
     ·rw[AR.mp z];exact r1
   rintro σ H3 ⟨rs,v,rfl,k3,f3,c3,lr,hrs⟩
   have n3:=k3 _ _ n2 nN.1 nN.2
   have lr':rs.length=t+1:=by omega
   dsimp only[aJ]
   refine⟨rfl,_,rfl,C,rfl,⟨_,.of c3⟩,λD hD=>?_⟩
   refine dn (xs:=rs.map λr=>V.int (r:Nat)) (λj σ H'=>∃(v:Option V),σ=[v]/\Same H3 H'/\H' D=some (.lst (((rs.take j).map λc=>aU [c]).map V.str)))
    ⟨none,?sg,Same.new hD,af⟩ (λj σ H' _ ⟨_,_,s,_⟩=>.of (s _ _ c3)) ?_ ?_
   case sg=>rfl
   ·rintro j y σ H4 hy ⟨v,rfl,s4,e4⟩
    rw[AW] at hy
    obtain⟨r,er,rfl⟩:=Bh.mp hy
    have hj:j<rs.length:=(AF.mp er).1
    refine⟨_,rfl,lO,_,97+r,rfl,rfl,zc,au (MG r (hrs r (AL er))),_,e4,?_,_,rfl,s4.kbn hD KB.write,?_⟩
    ·rw[AB,AB,Ao];omega
    ·rw[af,take_snoc er,AJ,AJ];rfl
   rintro σ H4 ⟨v,rfl,s4,e4⟩
   rw[AB,Ax] at e4
   refine⟨"",D,rs.map λc=>aU [c],rfl,rfl,.of e4,?jl,λz hz Yc=>?_⟩
   case jl=>
    have e0:(Str.length ("":Str))=0:=rfl
    have e1:((rs.map λc=>aU [c]).map (·.length)).sum=rs.length:=by
     rw[EG]
     have:(λc=>(aU [c]).length)=λ_=>1:=funext λc=>fZ [c]
     show(rs.map λc=>(aU [c]).length).sum=_
     rw[this,GJ]
     induction rs.length with
     | zero=>rfl
     | succ n ih=>rw[List.replicate_succ,Ed,ih];omega
    rw[e0,e1];omega
   rw[UH rs (by omega)] at Yc
   subst Yc
   have wd:i' rs:=⟨by omega,by omega,hrs⟩
   have n4:=s4 _ _ n3
   have k4:cm F L H H4:=((k1.trans k2).trans k3).trans s4.kb2
   have f4:=f3.same s4
   dsimp only[aJ]
   refine IU (λmm σ H'=>∃(l:List Nat) (vis:List Str),mm=50-vis.length/\σ=[some (.ref F),some (.int (m:Nat)),some (.ref N),some (.int (0+(i:Int))),some (.ref C),some (.str (aU l))]/\Same H4 H'/\i' l/\Met (fs++i5) l vis)
    ⟨_,rs,[],rfl,rfl,.refl _,wd,Gm,λv hv=>(by cases hv),rk rs,rfl,λj v hj=>(by simp at hj)⟩ ?_ ?_
   ·rintro mm σ H5 ⟨l,vis,rfl,rfl,s5,hw,met⟩
    have n5:=s5 _ _ n4
    refine UI (c:=decide (aU l∈fs++i5)) (Same H5) (λQc hq=>?_) (λH6 s6=>?_)
    ·refine⟨_,rfl,_,rfl,N,_,rfl,.inl (.of n5),rfl,RO fs,_,rfl,?_⟩
     rw[if_neg Am,qG]
     refine cW (λz=>?_) (λz=>?_)
     ·have z':aU l∈fs:=of_decide_eq_true z
      have:=hq H5 (.refl _)
      rwa [decide_eq_true (Ab.mpr (.inl z'))] at this
     ·have z':aU l ∉ fs:=λy=>z (decide_eq_true y)
      refine⟨_,rfl,by show 3<=sizeLine;decide,λZ hZ=>⟨Z,_,rfl,.inr (.of af),rfl,rfl,_,rfl,?_⟩⟩
      have:=hq _ (Same.new (o:=.tup [.str "and",.str "not",.str "or"]) hZ)
      have ee:decide (aU l∈fs++i5)=(if false=true then !inV (V.str (aU l)) [.str "and",.str "not",.str "or"] else inV (V.str (aU l)) [.str "and",.str "not",.str "or"]):=by
       rw[if_neg (by decide),show([.str "and",.str "not",.str "or"]:List V)=i5.map V.str from rfl,qG]
       exact decide_eq_decide.mpr ⟨λy=>(Ab.mp y).resolve_left z',λy=>Ab.mpr (.inr y)⟩
      rw[ee] at this
      exact this
    ·refine cW (λz=>?_) (λz=>?_)
     ·have z':=of_decide_eq_true z
      have lB:(fs++i5).length<=20:=by rw[AG];show fs.length+3<=20;omega
      have ZP:=met.step hw lB z'
      have lv:=jg met.once met.sub
      refine⟨_,rfl,l,rfl,hw,50-(vis++[aU l]).length,?_,pE l,vis++[aU l],rfl,rfl,s5.trans s6,OQ hw,ZP⟩
      rw[AG]
      show 50-(vis.length+1)<_
      omega
     ·have z':aU l ∉ fs++i5:=λy=>z (decide_eq_true y)
      have n6:=s6 _ _ n5
      refine⟨_,rfl,.inl ⟨rfl,_,.of n6⟩,_,rfl,N,_,_,rfl,rfl,n6,?_,fs++[aU l],_,_,_,rfl,?_,?_,?_,?_,?_⟩
      ·rw[AB];omega
      ·exact cm.lP (k4.trans (s5.trans s6).kb2) hN
      ·exact(f4.same (s5.trans s6)).upd nN
      ·rw[af,AJ];rfl
      ·rw[AG,lf];rfl
      ·refine⟨?_,λs hs=>?_,λs hs=>?_⟩
       ·rw[B7]
        exact⟨ok.once,by simp,λa ha b hb e=>z' (Ab.mpr (.inl (by rw[<-AR.mp hb,<-e];exact ha)))⟩
       ·rcases Ab.mp hs with y | y
        ·exact ok.words s y
        ·exact⟨l,hw,AR.mp y⟩
       ·rcases Ab.mp hs with y | y
        ·exact ok.no s y
        ·rw[AR.mp y];exact λx=>z' (Ab.mpr (.inr x))
   ·rintro σ H Q Q' hQ ⟨v,e1,v2,e2,a,xs,e3,e4,e5,e6,b,e7,q⟩
    refine⟨v,e1,v2,e2,a,xs,e3,e4,e5,e6,b,e7,?_⟩
    revert q
    cases b with
    | true=>exact λq=>hQ _ _ q
    | false=>
     rintro⟨v,e1,z,q⟩
     refine⟨v,e1,z,λp hp=>?_⟩
     obtain⟨a,xs,e3,e4,e5,e6,b,e7,q⟩:=q p hp
     exact⟨a,xs,e3,e4,e5,e6,b,e7,hQ _ _ q⟩
  ·rintro σ H1 ⟨fs,v3,v4,v5,rfl,k1,f1,n1,lf,ok⟩
   rw[Ag] at lf
   refine⟨_,rfl,N,fs,rfl,.of n1,by omega,λp ss hp perm zg=>?_⟩
   have sp:=Same.new (o:=.lst (ss.map V.str)) hp
   refine⟨p,_,rfl,.inl ⟨.of af,λD hD=>?_⟩⟩
   have sD:=Same.new (o:=.tup (ss.map V.str)) hD
   have kk:=k1.trans sp.kb2
   have ff:=f1.same sp
   exact k D ss _ (ff.lo kk hD) (kk.trans sD.kb2) (ff.same sD) af (by rw[perm.length_eq,lf]) (ok.perm perm) zg
structure Term where
 num:Int
 parts:List (Str×Int)
def km(p:Str×Int):Dt:=.tup [.str p.1,.int p.2]
def Term.dt(t:Term):Dt:=.tup [.int t.num,.tup (t.parts.map km)]
inductive az where
 | same (t u:Term) | less (t u:Term) | sign (a:Str) (t:Term) (s:Int) | alike (a:Str) (t:Term) (b:Str) (u:Term)
 | no (f:az) | and (f g:az) | or (f g:az) | some (n:Str) (f:az) | each (n:Str) (f:az)
def az.dt:az->Dt
 | .same t u=>.tup [.str "same",t.dt,u.dt]
 | .less t u=>.tup [.str "less",t.dt,u.dt]
 | .sign a t s=>.tup [.str "sign",.str a,t.dt,.int s]
 | .alike a t b u=>.tup [.str "alike",.str a,t.dt,.str b,u.dt]
 | .no f=>.tup [.str "not",f.dt]
 | .and f g=>.tup [.str "and",f.dt,g.dt]
 | .or f g=>.tup [.str "or",f.dt,g.dt]
 | .some n f=>.tup [.str "some",.str n,f.dt]
 | .each n f=>.tup [.str "each",.str n,f.dt]
def az.deep:az->Nat
 | .no f=>f.deep+1
 | .and f g=>max f.deep g.deep+1
 | .or f g=>max f.deep g.deep+1
 | .some _ f=>f.deep+1
 | .each _ f=>f.deep+1
 | _=>0
theorem vN:∀ps:List (Str×Int),Dt.gW (ps.map km)=true
 | []=>by simp[Dt.gW]
 | p::ps=>by rw[Ap,Dt.gW,vN ps];simp[km,Dt.gA,Dt.gW]
theorem Term.gA(t:Term):t.dt.gA=true:=by simp[Term.dt,Dt.gA,Dt.gW,vN]
theorem az.gA(s:az):s.dt.gA=true:=by
 induction s<;>simp[az.dt,Dt.gA,Dt.gW,Term.gA, *]
def fM(ss:List Str)(t:Term):Prop:=t.parts.length<=3/\∀q∈t.parts,q.1∈ss
def az.Over(ss:List Str):az->Prop
 | .same t u=>fM ss t/\fM ss u
 | .less t u=>fM ss t/\fM ss u
 | .sign _ t _=>fM ss t
 | .alike _ t _ u=>fM ss t/\fM ss u
 | .no f=>f.Over ss
 | .and f g=>f.Over ss/\g.Over ss
 | .or f g=>f.Over ss/\g.Over ss
 | .some _ f=>f.Over ss
 | .each _ f=>f.Over ss
def az.word:az->Str
 | .same _ _=>"same" | .less _ _=>"less" | .sign _ _ _=>"sign" | .alike _ _ _ _=>"alike" | .no _=>"not" | .and _ _=>"and" | .or _ _=>"or" | .some _ _=>"some" | .each _ _=>"each"
def az.inner:az->List az
 | .no f=>[f] | .and f g=>[f,g] | .or f g=>[f,g] | .some _ f=>[f] | .each _ f=>[f] | _=>[]
def az.spots:az->List Nat
 | .no _=>[1] | .and _ _=>[1,2] | .or _ _=>[1,2] | .some _ _=>[2] | .each _ _=>[2] | _=>[]
structure lQ where
 d:Addr
 no:Addr
 an:Addr
 or:Addr
 so:Addr
 ea:Addr
def dC(b:lQ):List (Str×Option V):=
 [("not",some (.ref b.no)),("and",some (.ref b.an)),("or",some (.ref b.or)),("some",some (.ref b.so)),("each",some (.ref b.ea)),("same",none),("less",none),("sign",none),("alike",none)]
structure ja (K:AD)(pr:Gj)(mg:Str->Option Value)(b:lQ):Prop where
 UJ:mg "PART_SPOTS"=some (.ref b.d)
 UK:lZ K pr b.d (dC b)
 no:∀H,aZ K H b.no [.int 1]
 an:∀H,aZ K H b.an [.int 1,.int 2]
 or:∀H,aZ K H b.or [.int 1,.int 2]
 so:∀H,aZ K H b.so [.int 2]
 ea:∀H,aZ K H b.ea [.int 2]
theorem ja.spots{K:AD}{pr:Gj}{mg:Str->Option Value}{b:lQ}(U:ja K pr mg b)(f:az)(H:Hp)(e:Addr)(he:aZ K H e []):
  ∃r p,(f.word,r)∈dC b/\r.getD (.ref e)=.ref p/\aZ K H p (f.spots.map λ(n:Nat)=>V.int (n:Int)):=by
 cases f with
 | same t u=>exact⟨none,e,by simp[dC,az.word],rfl,he⟩
 | less t u=>exact⟨none,e,by simp[dC,az.word],rfl,he⟩
 | sign a t s=>exact⟨none,e,by simp[dC,az.word],rfl,he⟩
 | alike a t c u=>exact⟨none,e,by simp[dC,az.word],rfl,he⟩
 | no f=>exact⟨some (.ref b.no),b.no,by simp[dC,az.word],rfl,U.no H⟩
 | and f g=>exact⟨some (.ref b.an),b.an,by simp[dC,az.word],rfl,U.an H⟩
 | or f g=>exact⟨some (.ref b.or),b.or,by simp[dC,az.word],rfl,U.or H⟩
 | some n f=>exact⟨some (.ref b.so),b.so,by simp[dC,az.word],rfl,U.so H⟩
 | each n f=>exact⟨some (.ref b.ea),b.ea,by simp[dC,az.word],rfl,U.ea H⟩
theorem bb{K:AD}{H:Hp}{xs:List V}{d:Dt}{ds:List Dt}(h:aF K H xs (d::ds)):∃y ys,xs=y::ys/\aq K H y d/\aF K H ys ds:=by
 cases xs with
 | nil=>simp[aF] at h
 | cons y ys=>rw[aF] at h;exact⟨y,ys,rfl,h.1,h.2⟩
theorem gD{K:AD}{H:Hp}{x:V}{ds:List Dt}(h:aq K H x (.tup ds)):∃a xs,x=.ref a/\aZ K H a xs/\aF K H xs ds:=by rw[aq] at h;exact h
theorem az.isTup(f:az):∃ds,f.dt=.tup (.str f.word::ds):=by
 cases f<;>exact⟨_,rfl⟩
theorem UL{K:AD}{H:Hp}{x:V}(f:az)(h:aq K H x f.dt):∃a xs,x=.ref a/\aZ K H a xs/\xs[0]? =some (.str f.word)/\
  ∀(i n:Nat),f.spots[i]? =some n->∃y g,xs[n]? =some y/\f.inner[i]? =some g/\aq K H y g.dt:=by
 obtain⟨ds,e⟩:=f.isTup
 have h':=h
 rw[e] at h'
 obtain⟨a,xs,rfl,hq,hd⟩:=gD h'
 obtain⟨y0,ys,rfl,h0,hd1⟩:=bb hd
 clear hd
 refine⟨a,_,rfl,hq,by rw[aq] at h0;rw[h0];rfl,?_⟩
 have one:∀{i n m:Nat},([m]:List Nat)[i]? =some n->i=0/\n=m:=λ{i n m} z=>by
  cases i with
  | zero=>simp at z;exact⟨rfl,z.symm⟩
  | succ i=>simp at z
 have two:∀{i n m k:Nat},([m,k]:List Nat)[i]? =some n->(i=0/\n=m)∨(i=1/\n=k):=λ{i n m k} z=>by
  match i with
  | 0=>simp at z;exact .inl ⟨rfl,z.symm⟩
  | 1=>simp at z;exact .inr ⟨rfl,z.symm⟩
  | i+2=>simp at z
 cases f with
 | same t u=>intro i n z;simp[az.spots] at z
 | less t u=>intro i n z;simp[az.spots] at z
 | sign b t s=>intro i n z;simp[az.spots] at z
 | alike b t c u=>intro i n z;simp[az.spots] at z
 | no f=>
  cases e
  obtain⟨y1,ys,rfl,h1,_⟩:=bb hd1
  intro i n z
  obtain⟨rfl,rfl⟩:=one z
  exact⟨y1,f,rfl,rfl,h1⟩
 | and f g=>
  cases e
  obtain⟨y1,ys,rfl,h1,hd2⟩:=bb hd1
  obtain⟨y2,ys,rfl,h2,_⟩:=bb hd2
  intro i n z
  rcases two z with⟨rfl,rfl⟩ | ⟨rfl,rfl⟩
  ·exact⟨y1,f,rfl,rfl,h1⟩
  ·exact⟨y2,g,rfl,rfl,h2⟩
 | or f g=>
  cases e
  obtain⟨y1,ys,rfl,h1,hd2⟩:=bb hd1
  obtain⟨y2,ys,rfl,h2,_⟩:=bb hd2
  intro i n z
  rcases two z with⟨rfl,rfl⟩ | ⟨rfl,rfl⟩
  ·exact⟨y1,f,rfl,rfl,h1⟩
  ·exact⟨y2,g,rfl,rfl,h2⟩
 | some m f=>
  cases e
  obtain⟨y1,ys,rfl,h1,hd2⟩:=bb hd1
  obtain⟨y2,ys,rfl,h2,_⟩:=bb hd2
  intro i n z
  obtain⟨rfl,rfl⟩:=one z
  exact⟨y2,f,rfl,rfl,h2⟩
 | each m f=>
  cases e
  obtain⟨y1,ys,rfl,h1,hd2⟩:=bb hd1
  obtain⟨y2,ys,rfl,h2,_⟩:=bb hd2
  intro i n z
  obtain⟨rfl,rfl⟩:=one z
  exact⟨y2,f,rfl,rfl,h2⟩
theorem vO(f:az):f.spots.length=f.inner.length:=by cases f<;>rfl
theorem gE(f:az):f.inner.length<=2:=by cases f<;>simp[az.inner]
theorem Kj(f g:az)(h:g∈f.inner):g.deep<f.deep:=by
 cases f with
 | no f=>
  have:g=f:=by simpa[az.inner] using h
  subst this;simp[az.deep]
 | and f1 f2=>
  have:g=f1∨g=f2:=by simpa[az.inner] using h
  rcases this with rfl | rfl<;>simp only[az.deep]<;>omega
 | or f1 f2=>
  have:g=f1∨g=f2:=by simpa[az.inner] using h
  rcases this with rfl | rfl<;>simp only[az.deep]<;>omega
 | some n f=>
  have:g=f:=by simpa[az.inner] using h
  subst this;simp[az.deep]
 | each n f=>
  have:g=f:=by simpa[az.inner] using h
  subst this;simp[az.deep]
 | _=>simp[az.inner] at h
theorem zh:∀fs:List az,Dt.gW (fs.map az.dt)=true
 | []=>by simp[Dt.gW]
 | f::fs=>by rw[Ap,Dt.gW,zh fs,f.gA];rfl
def uj(K:AD):Sp:=λvs H Q _=>∃(x:V) (f:az),vs=[x]/\aq K H x f.dt/\∀(D:Addr) (xs:List V) (H':Hp),H D=none->Same H H'->H' D=some (.lst xs)->aF K H' xs (f.inner.map az.dt)->Q (.ref D) H'
theorem uk:aO ["saying"] ["saying"] (ah da):=⟨rfl,rfl,rfl,by decide+kernel,rfl,by decide+kernel,by decide+kernel⟩
theorem mI{a:bR}{b:lQ}(T:Txt K mg a)(U:ja K w.params mg b):aR P w K mg base bj 1 a.dS a.eX ["saying"] (uj K):=by
 refine T.wc.ok uk (λvs H Q E h=>?_) (λcdv A outer s H vs Q E hr h=>?_)
 ·obtain⟨x,f,rfl,_⟩:=h
  rfl
 ·obtain⟨x,f,rfl,hf,k⟩:=h
  obtain⟨a,xs,rfl,hq,h0,hsp⟩:=UL f hf
  refine⟨_,(av (aQ (bN (aG.mk' (esc:=ah da) (N:=["saying"]) (own:=["spot"]) (aI:=["saying"]) (bJ:=[0]) rfl rfl (by decide+kernel)) rfl (fO (ve U.UK rfl U.UJ (aB (ax K) (pv 0) aj (λ_ _=>rfl)) (bf ag))) (λ_ _ _ _=>(aH (i:=0) (show A3 (["spot","saying"]:List Str) by decide+kernel) rfl (Ad rfl))) (λ_ _ _ _=>a_) (λ_ _ _ _=>(aB (ax K) (pv 1) (pv 0) (λ_ _=>rfl)))))),?_⟩
  refine⟨_,rfl,a,xs,0,.str f.word,rfl,rfl,hq,au (j:=0) h0,by decide,λe he=>?_⟩
  have s1:=Same.new (o:=.tup []) he
  obtain⟨r,p,hr1,hr2,Jb⟩:=U.spots f (upd H e (.tup [])) e (.of af)
  refine⟨f.word,r,rfl,hr1,p,hr2,⟨_,Jb⟩,λC hC=>?_⟩
  refine fj (xs:=f.spots.map λ(n:Nat)=>V.int (n:Int)) (λi σ H'=>∃(ys:List V) (v:Option V),σ=[v,some (.ref a)]/\Same (upd H e (.tup [])) H'/\H' C=some (.lst ys)/\aF K H' ys ((f.inner.take i).map az.dt)/\ys.length=i)
   ⟨[],none,rfl,Same.new hC,af,fR,rfl⟩ (λi σ H' _ ⟨_,_,_,h,_⟩=>h.qF Jb) ?_ ?_
  ·rintro i y σ H1 hy ⟨ys,v,rfl,s2,e2,PY,ly⟩
   rw[AW] at hy
   cases en:f.spots[i]? with
   | none=>rw[en] at hy;cases hy
   | some n=>
    rw[en] at hy
    have ey:y=.int (n:Int):=(AS hy).symm
    subst ey
    obtain⟨z,g,hz,hg,MK⟩:=hsp i n en
    have kt:iG K H H1:=(s1.trans s2).kts
    refine⟨_,rfl,_,rfl,a,xs,_,z,rfl,rfl,kt _ _ hq,au hz,ys,e2,?_,ys++[z],_,rfl,s2.kbn hC KB.write,af,?_,?_⟩
    ·have:i<f.spots.length:=(AF.mp en).1
     have h2:=gE f
     rw[vO] at this
     exact AY (show ys.length<10 by omega) (by decide)
    ·have e1:f.inner.take (i+1)=f.inner.take i++[g]:=by rw[Co,hg];rfl
     rw[e1,AJ]
     have kk:iG K H1 (upd H1 C (.lst (ys++[z]))):=KB.kts e2 KB.write
     exact xT (vf kk _ _ (zh _) PY) (cX (fm (kt.trans kk) _ _ g.gA MK) fR)
    ·rw[AG,ly];rfl
  ·rintro σ H1 ⟨ys,v,rfl,s2,e2,PY,ly⟩
   rw[AB,vO,Ax] at PY
   exact k C ys H1 (s1.free hC) (s1.trans s2) e2 PY
def az.terms:az->List Term
 | .same t u=>[t,u] | .less t u=>[t,u] | .sign _ t _=>[t] | .alike _ t _ u=>[t,u] | _=>[]
def az.gF:az->List Nat
 | .same _ _=>[1,2] | .less _ _=>[1,2] | .sign _ _ _=>[2] | .alike _ _ _ _=>[2,4] | _=>[]
def mJ(t:Term):List Str:=t.parts.map (·.1)
def az.gG(f:az):List Str:=f.terms.flatMap mJ
def az.binds:az->Option Str
 | .some n _=>Hd n | .each n _=>Hd n | _=>Gk
def az.Free:az->Str->Prop
 | .same t u,y=>y∈mJ t∨y∈mJ u
 | .less t u,y=>y∈mJ t∨y∈mJ u
 | .sign _ t _,y=>y∈mJ t
 | .alike _ t _ u,y=>y∈mJ t∨y∈mJ u
 | .no f,y=>f.Free y
 | .and f g,y=>f.Free y∨g.Free y
 | .or f g,y=>f.Free y∨g.Free y
 | .some n f,y=>f.Free y/\y≠n
 | .each n f,y=>f.Free y/\y≠n
theorem zi(f:az)(y:Str):f.Free y↔(y∈f.gG∨∃g∈f.inner,g.Free y)/\f.binds≠some y:=by
 cases f<;>simp[az.Free,az.gG,az.terms,az.inner,az.binds]
 all_goals (intro _;constructor<;>(intro h e;exact h e.symm))
theorem nF{ss:List Str}{f:az}(h:f.Over ss):∀t∈f.terms,fM ss t:=by
 cases f<;>simp[az.Over,az.terms] at h ⊢ <;>first | exact h | skip
theorem tf{ss:List Str}{f:az}(h:f.Over ss):∀g∈f.inner,g.Over ss:=by
 cases f<;>simp[az.Over,az.inner] at h ⊢ <;>first | exact h | skip
theorem ko{ss:List Str}{t:Term}(h:fM ss t){y:Str}(hy:y∈mJ t):y∈ss:=by
 obtain⟨q,hq,rfl⟩:=A1.mp hy
 exact h.2 q hq
theorem gm{ss:List Str}{y:Str}:∀{f:az},f.Over ss->f.Free y->y∈ss
 | .same t u,h,hf=>hf.elim (ko h.1) (ko h.2)
 | .less t u,h,hf=>hf.elim (ko h.1) (ko h.2)
 | .sign _ t _,h,hf=>ko (show fM ss t from h) hf
 | .alike _ t _ u,h,hf=>hf.elim (ko h.1) (ko h.2)
 | .no f,h,hf=>gm (f:=f) h hf
 | .and f g,h,hf=>hf.elim (gm h.1) (gm h.2)
 | .or f g,h,hf=>hf.elim (gm h.1) (gm h.2)
 | .some n f,h,hf=>gm (f:=f) h hf.1
 | .each n f,h,hf=>gm (f:=f) h hf.1
structure dM (ks:List Str)(f:az):Prop where
 sorted:Bm ks=true
 once:ks.Nodup
 mem:∀y,y∈ks↔f.Free y
theorem dM.uniq{ks ls:List Str}{f:az}(h:dM ks f)(g:dM ls f):ks=ls:=qt h.sorted g.sorted h.once g.once λy=>(h.mem y).trans (g.mem y).symm
theorem dM.len{ks ss:List Str}{f:az}(h:dM ks f)(o:f.Over ss):ks.length<=ss.length:=jg h.once λy hy=>gm o ((h.mem y).mp hy)
theorem qv(f:az):f.terms.length<=2:=by cases f<;>simp[az.terms]
theorem Kk(f:az):f.gF.length=f.terms.length:=by cases f<;>rfl
theorem nG{ss:List Str}:∀{ts:List Term},(∀t∈ts,fM ss t)->(ts.flatMap mJ).length<=3*ts.length
 | [],_=>BG _
 | t::ts,h=>by
  rw[List.flatMap_cons,AG,A4,mJ,AB]
  have h1:=(h t AZ).1
  have h2:=nG (ts:=ts) λu hu=>h u (AV _ hu)
  omega
theorem zj{ss:List Str}{f:az}(h:f.Over ss):f.gG.length<=6:=by
 have h1:=nG (nF h)
 have h2:=qv f
 unfold az.gG
 omega
structure nH where
 d:Addr
 sa:Addr
 le:Addr
 si:Addr
 al:Addr
def dD(b:nH):List (Str×Option V):=
 [("same",some (.ref b.sa)),("less",some (.ref b.le)),("sign",some (.ref b.si)),("alike",some (.ref b.al)),("not",none),("and",none),("or",none),("some",none),("each",none)]
structure jO (K:AD)(pr:Gj)(mg:Str->Option Value)(b:nH):Prop where
 UM:mg "TERM_SPOTS"=some (.ref b.d)
 UN:lZ K pr b.d (dD b)
 sa:∀H,aZ K H b.sa [.int 1,.int 2]
 le:∀H,aZ K H b.le [.int 1,.int 2]
 si:∀H,aZ K H b.si [.int 2]
 al:∀H,aZ K H b.al [.int 2,.int 4]
theorem jO.spots{K:AD}{pr:Gj}{mg:Str->Option Value}{b:nH}(U:jO K pr mg b)(f:az)(H:Hp)(e:Addr)(he:aZ K H e []):
  ∃r p,(f.word,r)∈dD b/\r.getD (.ref e)=.ref p/\aZ K H p (f.gF.map λ(n:Nat)=>V.int (n:Int)):=by
 cases f with
 | same t u=>exact⟨some (.ref b.sa),b.sa,by simp[dD,az.word],rfl,U.sa H⟩
 | less t u=>exact⟨some (.ref b.le),b.le,by simp[dD,az.word],rfl,U.le H⟩
 | sign a t s=>exact⟨some (.ref b.si),b.si,by simp[dD,az.word],rfl,U.si H⟩
 | alike a t c u=>exact⟨some (.ref b.al),b.al,by simp[dD,az.word],rfl,U.al H⟩
 | no f=>exact⟨none,e,by simp[dD,az.word],rfl,he⟩
 | and f g=>exact⟨none,e,by simp[dD,az.word],rfl,he⟩
 | or f g=>exact⟨none,e,by simp[dD,az.word],rfl,he⟩
 | some n f=>exact⟨none,e,by simp[dD,az.word],rfl,he⟩
 | each n f=>exact⟨none,e,by simp[dD,az.word],rfl,he⟩
theorem vP{K:AD}{H:Hp}{x:V}(f:az)(h:aq K H x f.dt):∃a xs,x=.ref a/\aZ K H a xs/\xs[0]? =some (.str f.word)/\
  (∀(i n:Nat),f.gF[i]? =some n->∃y t,xs[n]? =some y/\f.terms[i]? =some t/\aq K H y t.dt)/\∀n,f.binds=some n->xs[1]? =some (.str n):=by
 obtain⟨ds,e⟩:=f.isTup
 have h':=h
 rw[e] at h'
 obtain⟨a,xs,rfl,hq,hd⟩:=gD h'
 obtain⟨y0,ys,rfl,h0,hd1⟩:=bb hd
 clear hd
 refine⟨a,_,rfl,hq,by rw[aq] at h0;rw[h0];rfl,?_⟩
 have one:∀{i n m:Nat},([m]:List Nat)[i]? =some n->i=0/\n=m:=λ{i n m} z=>by
  cases i with
  | zero=>simp at z;exact⟨rfl,z.symm⟩
  | succ i=>simp at z
 have two:∀{i n m k:Nat},([m,k]:List Nat)[i]? =some n->(i=0/\n=m)∨(i=1/\n=k):=λ{i n m k} z=>by
  match i with
  | 0=>simp at z;exact .inl ⟨rfl,z.symm⟩
  | 1=>simp at z;exact .inr ⟨rfl,z.symm⟩
  | i+2=>simp at z
 have nb:∀{P:Prop} {n:Str},(Gk:Option Str)=some n->P:=λz=>nomatch z
 cases f with
 | same t u=>
  cases e
  obtain⟨y1,ys,rfl,h1,hd2⟩:=bb hd1
  obtain⟨y2,ys,rfl,h2,_⟩:=bb hd2
  refine⟨λi n z=>?_,λn z=>nb z⟩
  rcases two z with⟨rfl,rfl⟩ | ⟨rfl,rfl⟩
  ·exact⟨y1,t,rfl,rfl,h1⟩
  ·exact⟨y2,u,rfl,rfl,h2⟩
 | less t u=>
  cases e
  obtain⟨y1,ys,rfl,h1,hd2⟩:=bb hd1
  obtain⟨y2,ys,rfl,h2,_⟩:=bb hd2
  refine⟨λi n z=>?_,λn z=>nb z⟩
  rcases two z with⟨rfl,rfl⟩ | ⟨rfl,rfl⟩
  ·exact⟨y1,t,rfl,rfl,h1⟩
  ·exact⟨y2,u,rfl,rfl,h2⟩
 | sign b t s=>
  cases e
  obtain⟨y1,ys,rfl,h1,hd2⟩:=bb hd1
  obtain⟨y2,ys,rfl,h2,_⟩:=bb hd2
  refine⟨λi n z=>?_,λn z=>nb z⟩
  obtain⟨rfl,rfl⟩:=one z
  exact⟨y2,t,rfl,rfl,h2⟩
 | alike b t c u=>
  cases e
  obtain⟨y1,ys,rfl,h1,hd2⟩:=bb hd1
  obtain⟨y2,ys,rfl,h2,hd3⟩:=bb hd2
  obtain⟨y3,ys,rfl,h3,hd4⟩:=bb hd3
  obtain⟨y4,ys,rfl,h4,_⟩:=bb hd4
  refine⟨λi n z=>?_,λn z=>nb z⟩
  rcases two z with⟨rfl,rfl⟩ | ⟨rfl,rfl⟩
  ·exact⟨y2,t,rfl,rfl,h2⟩
  ·exact⟨y4,u,rfl,rfl,h4⟩
 | no f=>exact⟨λi n z=>by simp[az.gF] at z,λn z=>nb z⟩
 | and f g=>exact⟨λi n z=>by simp[az.gF] at z,λn z=>nb z⟩
 | or f g=>exact⟨λi n z=>by simp[az.gF] at z,λn z=>nb z⟩
 | some m f=>
  cases e
  obtain⟨y1,ys,rfl,h1,hd2⟩:=bb hd1
  refine⟨λi n z=>by simp[az.gF] at z,λn z=>?_⟩
  have z':m=n:=AS z
  rw[aq] at h1
  rw[<-z',h1];rfl
 | each m f=>
  cases e
  obtain⟨y1,ys,rfl,h1,hd2⟩:=bb hd1
  refine⟨λi n z=>by simp[az.gF] at z,λn z=>?_⟩
  have z':m=n:=AS z
  rw[aq] at h1
  rw[<-z',h1];rfl
theorem RQ{K:AD}{H:Hp}{x:V}{t:Term}(h:aq K H x t.dt):∃a p ys,x=.ref a/\aZ K H a [.int t.num,.ref p]/\aZ K H p ys/\aF K H ys (t.parts.map km):=by
 obtain⟨a,xs,rfl,hq,hd⟩:=gD (show aq K H x (.tup [.int t.num,.tup (t.parts.map km)]) from h)
 obtain⟨y0,ys,rfl,h0,hd1⟩:=bb hd
 obtain⟨y1,ys,rfl,h1,hd2⟩:=bb hd1
 have e:ys=[]:=by
  have:=hd2.length
  simpa using this
 subst e
 rw[aq] at h0
 subst h0
 obtain⟨p,zs,rfl,hp,hz⟩:=gD h1
 exact⟨a,p,zs,rfl,hq,hp,hz⟩
theorem OS{K:AD}{H:Hp}{x:V}{p:Str×Int}(h:aq K H x (km p)):∃a,x=.ref a/\aZ K H a [.str p.1,.int p.2]:=by
 obtain⟨a,xs,rfl,hq,hd⟩:=gD (show aq K H x (.tup [.str p.1,.int p.2]) from h)
 obtain⟨y0,ys,rfl,h0,hd1⟩:=bb hd
 obtain⟨y1,ys,rfl,h1,hd2⟩:=bb hd1
 have e:ys=[]:=by
  have:=hd2.length
  simpa using this
 subst e
 rw[aq] at h0
 rw[aq] at h1
 subst h0 h1
 exact⟨a,rfl,hq⟩
theorem d8{α:Type}{xs:List α}{i:Nat}{x:α}(h:xs[i]? =some x):xs.take (i+1)=xs.take i++[x]:=by rw[Co,h];rfl
def qw(K:AD):Sp:=λvs H Q _=>∃(x:V) (f:az) (ss:List Str),vs=[x]/\aq K H x f.dt/\f.Over ss/\∀(D:Addr) (H':Hp),H D=none->Same H H'->H' D=some (.lst (f.gG.map V.str))->Q (.ref D) H'
theorem jz:aO ["saying","names","spot"] ["saying"] (ah dF):=⟨rfl,rfl,rfl,by decide+kernel,rfl,by decide+kernel,by decide+kernel⟩
theorem wN{a:bR}{b:nH}(T:Txt K mg a)(Y:jO K w.params mg b):aR P w K mg base bj 1 a.fU a.gK ["saying"] (qw K):=by
 refine T.yA.ok jz (λvs H Q E h=>?_) (λcdv A outer s H vs Q E hr h=>?_)
 ·obtain⟨x,f,ss,rfl,_⟩:=h
  rfl
 ·obtain⟨x,f,ss,rfl,hf,ov,k⟩:=h
  obtain⟨a,xs,rfl,hq,h0,hsp,_⟩:=vP f hf
  refine⟨_,(ai (ay (i:=1) jz.nd rfl (Ad rfl) (cf ag))
  (ai (dg A0 rfl (fO (ve Y.UN rfl Y.UM (aB (ax K) (pv 0) aj (λ_ _=>rfl)) (bf ag))) (aH (i:=2) jz.nd rfl (Ad rfl))
   (av (cG (dO Au Cu Cv oM (pv 1) (ae (bN (aG.mk' (esc:=ah dF) (N:=["saying","names","spot"]) (own:=["part"]) (aI:=[]) (bJ:=[]) rfl rfl (by decide+kernel)) rfl (fO (aB (ax K) (aB (ax K) (pv 0) (pv 2) (λ_ _=>rfl)) aj (λ_ _=>rfl))) (λ_ _ _ _=>(aH (i:=0) (show A3 (["part"]:List Str) by decide+kernel) rfl (Ad rfl))) (λ_ _ _ _=>a_) (λ_ _ _ _=>(aB (ax K) (pv 0) aj (λ_ _=>rfl)))) ag)))))
  (av (aQ (pv 1))))),?_⟩
  refine⟨by decide,λN hN=>?_⟩
  have sN:=Same.new (o:=.lst []) hN
  refine⟨_,rfl,a,xs,0,.str f.word,rfl,rfl,sN.qF hq,au (j:=0) h0,by decide,λe he=>?_⟩
  have s1:=sN.trans (Same.new (o:=.tup []) he)
  obtain⟨r,p,hr1,hr2,Jb⟩:=Y.spots f (upd (upd H N (.lst [])) e (.tup [])) e (.of af)
  have PZ:(upd (upd H N (.lst [])) e (.tup [])) N=some (.lst []):=(Same.new (o:=.tup []) he) _ _ af
  generalize upd (upd H N (.lst [])) e (.tup [])=H1 at s1 Jb PZ ⊢
  refine⟨f.word,r,rfl,hr1,p,hr2,⟨_,Jb⟩,Ih (xs:=f.gF.map λ(n:Nat)=>V.int (n:Int)) (λi σ H'=>∃v2:Option V,σ=[some (.ref a),some (.ref N),v2]/\KB N H1 H'/\H' N=some (.lst (((f.terms.take i).flatMap mJ).map V.str)))
   ⟨none,rfl,KB.refl _ _,PZ⟩ (λi σ H' _ ⟨_,_,h,e⟩=>(KB.kts PZ h) _ _ Jb) ?_ ?_⟩
  ·rintro i y σ H2 hy ⟨v2,rfl,k2,eN⟩
   rw[AW] at hy
   cases en:f.gF[i]? with
   | none=>rw[en] at hy;cases hy
   | some n=>
    rw[en] at hy
    have ey:y=.int (n:Int):=(AS hy).symm
    subst ey
    obtain⟨z,t,hz,ht,MK⟩:=hsp i n en
    have kt:iG K H H2:=s1.kts.trans (KB.kts PZ k2)
    obtain⟨ta,pa,ys,rfl,q1,q2,q3⟩:=RQ (fm kt _ _ t.gA MK)
    have to:=nF ov t (AL ht)
    refine⟨_,rfl,.inl ⟨rfl,_,.of eN⟩,_,rfl,_,rfl,a,xs,_,_,rfl,rfl,kt _ _ hq,au hz,ta,_,_,_,rfl,rfl,q1,au (j:=1) (v:=.ref pa) rfl,pa,rfl,⟨_,q2⟩,λC hC=>?_⟩
    have nNC:N≠C:=ak eN hC
    refine fj (xs:=ys) (λj σ H'=>∃v:Option V,σ=[v]/\Same H2 H'/\H' C=some (.lst (((t.parts.take j).map (·.1)).map V.str)))
     ⟨none,?sg,Same.new hC,af⟩ (λj σ H' _ ⟨_,_,s,_⟩=>s.qF q2) ?_ ?_
    case sg=>rfl
    ·rintro j y σ H3 hy ⟨v,rfl,s3,eC⟩
     obtain⟨d,ed,hd⟩:=q3.get hy
     rw[AW] at ed
     cases ep:t.parts[j]? with
     | none=>rw[ep] at ed;cases ed
     | some pp=>
      rw[ep] at ed
      have ed':km pp=d:=AS ed
      subst ed'
      obtain⟨qa,rfl,hqa⟩:=OS hd
      refine⟨_,rfl,qa,_,_,_,rfl,rfl,s3.qF hqa,au (j:=0) (v:=.str pp.1) rfl,_,eC,?_,_,rfl,s3.kbn hC KB.write,?_⟩
      ·rw[AB,AB,Ao]
       exact A7 (show min j t.parts.length<=3 by have:=to.1;omega) (by decide)
      ·rw[af,d8 ep,AJ,AJ];rfl
    rintro σ H3 ⟨v,rfl,s3,eC⟩
    have ly:ys.length=t.parts.length:=by rw[q3.length,AB]
    rw[ly,Ax] at eC
    have ti:=s3 _ _ eN
    have hl1:=nG (ts:=f.terms.take i) λu hu=>nF ov u (CH hu)
    have hl2:(f.terms.take i).length<=2:=by rw[Ao];have:=qv f;omega
    refine⟨N,C,_,_,rfl,rfl,ti,eC,?_,_,rfl,(k2.trans s3.kb).trans KB.write,?_⟩
    ·rw[AB,AB,AB]
     exact BB (show _<=20 by have:=to.1;omega) (by decide)
    ·rw[af,d8 ht,Es,AJ]
     simp[mJ]
  ·rintro σ H2 ⟨v2,rfl,k2,eN⟩
   rw[AB,Kk,Ax] at eN
   exact⟨_,rfl,k N H2 hN (s1.kbn hN k2) eN⟩
def cz(ns:List Nat):List V:=ns.map λ(n:Nat)=>V.int (n:Int)
def az.at :az->List Nat->Option az
 | f,[]=>Hd f
 | f,n::ns=>(f.inner[n]?).bind λg=>g.at ns
theorem ML:∀(ns:List Nat) (f g h:az) (k:Nat),f.at ns=some g->g.inner[k]? =some h->f.at (ns++[k])=some h
 | [],f,g,h,k,e,e2=>by
  have e':f=g:=AS e
  subst e'
  show(f.inner[k]?).bind (λg=>g.at [])=some h
  rw[e2];rfl
 | n::ns,f,g,h,k,e,e2=>by
  have e':(f.inner[n]?).bind (λg=>g.at ns)=some g:=e
  obtain⟨u,eu,ea⟩:=Bl.mp e'
  show(f.inner[n]?).bind (λg=>g.at (ns++[k]))=some h
  rw[eu]
  exact ML ns u g h k ea e2
def az.size:az->Nat
 | .no f=>f.size+1 | .and f g=>f.size+g.size+1 | .or f g=>f.size+g.size+1 | .some _ f=>f.size+1 | .each _ f=>f.size+1 | _=>1
theorem size_inner(f:az):(f.inner.map az.size).sum+1=f.size:=by cases f<;>simp[az.inner,az.size]
theorem fi:∀f:az,f.size+1<=2 ^ (f.deep+1)
 | .same _ _=>by simp[az.size,az.deep]
 | .less _ _=>by simp[az.size,az.deep]
 | .sign _ _ _=>by simp[az.size,az.deep]
 | .alike _ _ _ _=>by simp[az.size,az.deep]
 | .no f=>by
  have:=fi f
  simp only[az.size,az.deep]
  rw[Dc]
  omega
 | .and f g=>by
  have h1:=fi f
  have h2:=fi g
  have a1:=BR (n:=2) (by decide) (show f.deep+1<=max f.deep g.deep+1 by omega)
  have a2:=BR (n:=2) (by decide) (show g.deep+1<=max f.deep g.deep+1 by omega)
  simp only[az.size,az.deep]
  rw[Dc 2 (max f.deep g.deep+1)]
  omega
 | .or f g=>by
  have h1:=fi f
  have h2:=fi g
  have a1:=BR (n:=2) (by decide) (show f.deep+1<=max f.deep g.deep+1 by omega)
  have a2:=BR (n:=2) (by decide) (show g.deep+1<=max f.deep g.deep+1 by omega)
  simp only[az.size,az.deep]
  rw[Dc 2 (max f.deep g.deep+1)]
  omega
 | .some n f=>by
  have:=fi f
  simp only[az.size,az.deep]
  rw[Dc]
  omega
 | .each n f=>by
  have:=fi f
  simp only[az.size,az.deep]
  rw[Dc]
  omega
abbrev Ent:=List Nat×az
def kids(ns:List Nat):Nat->List az->List Ent
 | _,[]=>[]
 | k,h::t=>(ns++[k],h)::kids ns (k+1) t
theorem qc(ns:List Nat):∀(l:List az) (k i:Nat),(kids ns k l)[i]? =(l[i]?).map λh=>(ns++[k+i],h)
 | [],k,i=>by simp[kids]
 | h::t,k,0=>rfl
 | h::t,k,i+1=>by
  rw[kids,B3,B3,qc ns t (k+1) i,show k+1+i=k+(i+1) by omega]
theorem q_(ns:List Nat):∀(l:List az) (k:Nat),(kids ns k l).length=l.length
 | [],_=>rfl
 | h::t,k=>by rw[kids,A4,q_ ns t,A4]
theorem zk(ns:List Nat):∀(l:List az) (k:Nat),((kids ns k l).map λe=>e.2.size).sum=(l.map az.size).sum
 | [],_=>rfl
 | h::t,k=>by rw[kids,Ap,Ap,Ed,Ed,zk ns t]
def rb(K:AD)(H:Hp)(q:Addr)(e:Ent):Prop:=∃pl y,H q=some (.tup [.ref pl,y])/\H pl=some (.tup (cz e.1))/\aq K H y e.2.dt
theorem rb.keep{K:AD}{H H':Hp}{q:Addr}{e:Ent}(h:rb K H q e)(k:aW H H')(ks:iG K H H'):rb K H' q e:=by
 obtain⟨pl,y,h1,h2,h3⟩:=h
 exact⟨pl,y,k _ _ h1,k _ _ h2,fm ks _ _ e.2.gA h3⟩
abbrev bV (K:AD)(H:Hp):List Addr->List Ent->Prop:=Bv (rb K H)
theorem bV.keep{K:AD}{H H':Hp}(k:aW H H')(ks:iG K H H'):∀{qs:List Addr} {es:List Ent},bV K H qs es->bV K H' qs es
 | _,_,.nil=>.nil
 | _,_,.cons h t=>.cons (h.keep k ks) (bV.keep k ks t)
theorem qd{K:AD}{H:Hp}{qs rs:List Addr}{es ds:List Ent}(a:bV K H qs es)(b:bV K H rs ds):bV K H (qs++rs) (es++ds):=bA a b
theorem Jc{K:AD}{H:Hp}:∀{qs:List Addr} {es:List Ent} {i:Nat} {q:Addr},bV K H qs es->qs[i]? =some q->∃e,es[i]? =some e/\rb K H q e
 | _,_,_,_,.nil,h=>by simp at h
 | _,_,0,_,.cons a _,h=>by simp at h;subst h;exact⟨_,rfl,a⟩
 | _,_,i+1,_,.cons _ t,h=>by
  simp only[B3] at h ⊢
  exact Jc t h
theorem zl{K:AD}{H:Hp}:∀{qs:List Addr} {es:List Ent},bV K H qs es->qs≠[]->∃P_ q es' e,qs=P_++[q]/\es=es'++[e]/\bV K H P_ es'/\rb K H q e
 | _,_,.nil,h=>absurd rfl h
 | [q],[e],.cons a .nil,_=>⟨[],q,[],e,rfl,rfl,.nil,a⟩
 | q::q2::qs,e::e2::es,.cons a (.cons b t),_=>by
  obtain⟨P_,r,es',d,e1,e3,h1,h2⟩:=zl (.cons b t) (by simp)
  exact⟨q::P_,r,e::es',d,by rw[e1];rfl,by rw[e3];rfl,.cons a h1,h2⟩
structure Ord (f:az)(we fe:List Ent):Prop where
 here:∀e,e∈we∨e∈fe->f.at e.1=some e.2
 kid:∀(i:Nat) (ns:List Nat) (g:az),fe[i]? =some (ns,g)->∀k h,g.inner[k]? =some h->(ns++[k],h)∈we∨∃j,i<j/\fe[j]? =some (ns++[k],h)
 root:([],f)∈we∨([],f)∈fe
theorem Ord.step{f:az}{we fe:List Ent}{ns:List Nat}{g:az}(o:Ord f (we++[(ns,g)]) fe):Ord f (we++kids ns 0 g.inner) (fe++[(ns,g)]) where
 here:=λe he=>by
  have hg:f.at ns=some g:=o.here (ns,g) (.inl (by simp))
  rcases he with he | he
  ·rcases Ab.mp he with he | he
   ·exact o.here e (.inl (Ab.mpr (.inl he)))
   ·obtain⟨i,hi⟩:=BH he
    rw[qc] at hi
    cases eh:g.inner[i]? with
    | none=>rw[eh] at hi;cases hi
    | some h=>
     rw[eh] at hi
     have hi':(ns++[0+i],h)=e:=AS hi
     rw[<-hi',DD]
     exact ML ns f g h i hg eh
  ·rcases Ab.mp he with he | he
   ·exact o.here e (.inr he)
   ·rw[AR.mp he];exact hg
 kid:=λi ms u hi k h hk=>by
  by_cases lt:i<fe.length
  ·rw[An lt] at hi
   rcases o.kid i ms u hi k h hk with z | ⟨j,hj,z⟩
   ·rcases Ab.mp z with z | z
    ·exact .inl (Ab.mpr (.inl z))
    ·refine .inr ⟨fe.length,lt,?_⟩
     rw[Aj (AM _),Bz,AR.mp z];rfl
   ·have hj2:=(AF.mp z).1
    exact .inr ⟨j,hj,by rw[An hj2];exact z⟩
  ·have hl:=(AF.mp hi).1
   rw[AG] at hl
   have hl':i<fe.length+1:=hl
   have e:i=fe.length:=by omega
   subst e
   rw[Aj (AM _),Bz] at hi
   have hi':(ns,g)=(ms,u):=AS hi
   cases hi'
   refine .inl (Ab.mpr (.inr (AL (i:=k) ?_)))
   rw[qc,hk,DD];rfl
 root:=by
  rcases o.root with z | z
  ·rcases Ab.mp z with z | z
   ·exact .inl (Ab.mpr (.inl z))
   ·exact .inr (Ab.mpr (.inr z))
  ·exact .inr (Ab.mpr (.inl z))
structure UO (f:az)(es:List Ent):Prop where
 here:∀e∈es,f.at e.1=some e.2
 kid:∀(i:Nat) (ns:List Nat) (g:az),es[i]? =some (ns,g)->∀k h,g.inner[k]? =some h->∃j,j<i/\es[j]? =some (ns++[k],h)
 root:([],f)∈es
theorem Ord.late{f:az}{fe:List Ent}(o:Ord f [] fe):UO f fe.reverse where
 here:=λe he=>o.here e (.inr (DZ.mp he))
 kid:=λi ns g hi k h hk=>by
  have lt:i<fe.length:=by have:=(AF.mp hi).1;rwa [B8] at this
  rw[DL lt] at hi
  rcases o.kid _ ns g hi k h hk with z | ⟨j,hj,z⟩
  ·cases z
  ·have hj2:=(AF.mp z).1
   refine⟨fe.length-1-j,by omega,?_⟩
   rw[DL (by omega),show fe.length-1-(fe.length-1-j)=j by omega]
   exact z
 root:=by
  rcases o.root with z | z
  ·cases z
  ·exact DZ.mpr z
theorem Jd:∀we:List Ent,we.length<=(we.map λe=>e.2.size).sum
 | []=>AM _
 | e::we=>by
  have h1:=Jd we
  have h2:=size_inner e.2
  rw[Ap,Ed,A4]
  omega
theorem Je:∀(ns:List Nat) (f g:az),f.at ns=some g->ns.length+g.deep<=f.deep
 | [],f,g,e=>by
  have e':f=g:=AS e
  subst e'
  simp
 | n::ns,f,g,e=>by
  have e':(f.inner[n]?).bind (λg=>g.at ns)=some g:=e
  obtain⟨u,eu,ea⟩:=Bl.mp e'
  have h1:=Je ns u g ea
  have h2:=Kj f u (AL eu)
  rw[A4]
  omega
theorem zm{f g:az}{ns:List Nat}(h:f.deep<=15)(e:f.at ns=some g):ns.length<=15:=by
 have:=Je ns f g e
 omega
theorem Jf{K:AD}{H:Hp}:∀{qs:List Addr} {es:List Ent},bV K H qs es->bV K H qs.reverse es.reverse
 | _,_,.nil=>.nil
 | _,_,.cons a t=>by
  rw[EH,EH]
  exact qd (Jf t) (.cons a .nil)
def Jg(K:AD):Sp:=λvs H Q _=>∃(x:V) (f:az),vs=[x]/\aq K H x f.dt/\f.deep<=15/\
 ∀(D:Addr) (qs:List Addr) (es:List Ent) (H':Hp),H D=none->Same H H'->H' D=some (.lst (qs.map V.ref))->bV K H' qs es->UO f es->es.length<=100000->Q (.ref D) H'
theorem zo{rs:List Addr}{i:Nat}{x:V}(h:(rs.map V.ref)[i]? =some x):∃r,x=.ref r/\rs[i]? =some r:=by
 rw[AW] at h
 cases e:rs[i]? with
 | none=>rw[e] at h;cases h
 | some r=>rw[e] at h;exact⟨r,(AS h).symm,rfl⟩
theorem cI:aO ["saying","waiting","found","pair","number","part"] ["saying"] (ah cQ):=⟨rfl,rfl,rfl,by decide+kernel,rfl,by decide+kernel,by decide+kernel⟩
theorem qh{a:bR}{b:lQ}(T:Txt K mg a)(U:ja K w.params mg b):aR P w K mg base bj 2 a.dH a.eJ ["saying"] (Jg K):=by
 have jA:aR P w K mg base bj 1 a.dS a.eX ["saying"] (uj K):=mI T U
 refine T.qR.ok cI (λvs H Q E h=>?_) (λcdv A outer s H vs Q E hr h=>?_)
 ·obtain⟨x,f,rfl,_⟩:=h
  rfl
 ·obtain⟨x,f,rfl,hf,hdp,k⟩:=h
  have i6:aP 1 _:=hr
  refine⟨_,(ai (ay (i:=1) cI.nd rfl (Ad rfl) (cf (ae (bf (ae (bf ag) (ae (pv 0) ag))) ag)))
  (ai (ay (i:=2) cI.nd rfl (Ad rfl) (cf ag))
  (ai (fN A0 (j_ (pv 1) (λ_=>rfl))
   (ai (ay (i:=3) cI.nd rfl (Ad rfl) (xD Au GU GV K2 (pv 1)))
   (ai (cG (dO Au A_ A' cy (pv 2) (ae (pv 3) ag)))
   (av (dg A0 rfl (Q7 rfl T.Ht (ae (aA jA i6 rfl T.oi T.oj T.om .nil aK (ae (aB (ax K) (pv 3) aj (λ_ _=>rfl)) ag)) ag)) (xv rfl (cD (aH (i:=4) cI.nd rfl (Ad rfl)) (cD (aH (i:=5) cI.nd rfl (Ad rfl)) iJ)))
    (av (cG (dO Au A_ A' cy (pv 1) (ae (bf (ae (aV (mY K) (aB (ax K) (pv 3) aj (λ_ _=>rfl)) (bf (ae (pv 4) ag))) (ae (pv 5) ag))) ag)))))))))
  (av (aQ (JL K rfl rfl T.sC rfl T.Kb (ae (pv 2) ag))))))),?_⟩
  have fsz:f.size<=70000:=by
   have h1:=fi f
   have h2:=BR (n:=2) (by decide) (show f.deep+1<=16 by omega)
   have h3:(2:Nat) ^ 16=65536:=by decide
   omega
  refine⟨by decide,λe0 he0=>⟨_,rfl,by show 2<=sizeLine;decide,λq0 hq0=>⟨by show 1<=sizeLine;decide,λWt Yd=>?_⟩⟩⟩
  have s0:=Same.new (o:=.tup []) he0
  have s1:=Same.new (o:=.tup [.ref e0,x]) hq0
  have s2:=Same.new (o:=.lst [.ref q0]) Yd
  refine⟨by decide,λFo UP=>?_⟩
  have s3:=Same.new (o:=.lst []) UP
  have eW:=s3 _ _ (af (H:=upd (upd H e0 (.tup [])) q0 (.tup [.ref e0,x])) (a:=Wt) (o:=.lst [.ref q0]))
  have eF:(upd (upd (upd (upd H e0 (.tup [])) q0 (.tup [.ref e0,x])) Wt (.lst [.ref q0])) Fo (.lst [])) Fo=some (.lst []):=af
  have pr:rb K (upd (upd (upd (upd H e0 (.tup [])) q0 (.tup [.ref e0,x])) Wt (.lst [.ref q0])) Fo (.lst [])) q0 ([],f):=
   ⟨e0,x,s3 _ _ (s2 _ _ af),s3 _ _ (s2 _ _ (s1 _ _ af)),fm (((s0.trans s1).trans s2).trans s3).kts _ _ f.gA hf⟩
  have sA:=((s0.trans s1).trans s2).trans s3
  have UQ:Wt≠Fo:=ak af UP
  have hW0:H Wt=none:=(s0.trans s1).free Yd
  have hF0:H Fo=none:=((s0.trans s1).trans s2).free UP
  generalize upd (upd (upd (upd H e0 (.tup [])) q0 (.tup [.ref e0,x])) Wt (.lst [.ref q0])) Fo (.lst [])=H1 at eW eF pr sA ⊢
  refine⟨λm σ H'=>∃(ws fs:List Addr) (we fe:List Ent) (v3 v4 v5:Option V),σ=[some x,some (.ref Wt),some (.ref Fo),v3,v4,v5]/\Same H H'/\H' Wt=some (.lst (ws.map V.ref))/\H' Fo=some (.lst (fs.map V.ref))/\bV K H' ws we/\bV K H' fs fe/\Ord f we fe/\
    m=(we.map λe=>e.2.size).sum/\fe.length+(we.map λe=>e.2.size).sum<=70000,
   ⟨_,[q0],[],[([],f)],[],none,none,none,rfl,sA,eW,eF,.cons pr .nil,.nil,⟨λe he=>?_,λi ns g z=>by simp at z,.inl (by simp)⟩,rfl,by simpa using fsz⟩,?_⟩
  ·have e':e=([],f):=by simpa using he
   rw[e'];rfl
  rintro m σ H2 ⟨ws,fs,we,fe,v3,v4,v5,rfl,s2',MM,Ye,pw,pf,od,rfl,hsz⟩
  refine⟨_,rfl, !(ws.map V.ref).isEmpty,.inl ⟨_,.of MM,rfl⟩,?_⟩
  refine cW (λhne=>?_) (λhem=>?_)
  ·have wne:ws≠[]:=λz=>by subst z;simp at hne
   obtain⟨ws',q,zp,⟨ns,g⟩,rfl,rfl,pw',pq⟩:=zl pw wne
   refine⟨λσ' H'=>∃(ws fs:List Addr) (we fe:List Ent) (v3 v4 v5:Option V),σ'=[some x,some (.ref Wt),some (.ref Fo),v3,v4,v5]/\Same H H'/\H' Wt=some (.lst (ws.map V.ref))/\H' Fo=some (.lst (fs.map V.ref))/\bV K H' ws we/\bV K H' fs fe/\Ord f we fe/\
     (we.map λe=>e.2.size).sum<((zp++[(ns,g)]).map λe=>e.2.size).sum/\fe.length+(we.map λe=>e.2.size).sum<=70000,
    λσ' H' ⟨ws,fs,we,fe,v3,v4,v5,a1,a2,a3,a4,a5,a6,a7,a8,a9⟩=>⟨_,a8,ws,fs,we,fe,v3,v4,v5,a1,a2,a3,a4,a5,a6,a7,rfl,a9⟩,?_⟩
   refine⟨_,rfl,.inl ⟨rfl,_,.of MM⟩,Wt,_,.ref q,rfl,rfl,MM,by simp,?_⟩
   have dl:((ws'++[q]).map V.ref).dropLast=ws'.map V.ref:=by rw[AJ];simp
   rw[dl]
   have kW:=KB.write (d:=Wt) (H:=H2) (o:=.lst (ws'.map V.ref))
   have UR:=aW.lst (o:=.lst (ws'.map V.ref)) MM
   have US:=KB.kts (K:=K) MM kW
   have Yf:(upd H2 Wt (.lst (ws'.map V.ref))) Wt=some (.lst (ws'.map V.ref)):=af
   have MN:=kW _ _ Ye UQ.symm
   have Yg:=bV.keep UR US pw'
   have Yh:=bV.keep UR US pf
   have Yi:=pq.keep UR US
   have vJ:=s2'.kbn hW0 kW
   generalize upd H2 Wt (.lst (ws'.map V.ref))=H3 at Yf MN Yg Yh Yi vJ ⊢
   have lfe:fs.length=fe.length:=AX pf
   refine⟨_,rfl,.inl ⟨rfl,_,.of MN⟩,_,rfl,Fo,_,_,rfl,rfl,MN,?_,?_⟩
   ·rw[AB];exact A7 (show fs.length<=70000 by omega) (by decide)
   have kF:=KB.write (d:=Fo) (H:=H3) (o:=.lst (fs.map V.ref++[.ref q]))
   have UT:=aW.lst (o:=.lst (fs.map V.ref++[.ref q])) MN
   have UU:=KB.kts (K:=K) MN kF
   have Yj:(upd H3 Fo (.lst (fs.map V.ref++[.ref q]))) Fo=some (.lst ((fs++[q]).map V.ref)):=by rw[af,AJ];rfl
   have UW:=kF _ _ Yf UQ
   have Yk:=bV.keep UT UU Yg
   have Yl:=bV.keep UT UU Yh
   have UX:=Yi.keep UT UU
   have Ym:=vJ.kbn hF0 kF
   generalize upd H3 Fo (.lst (fs.map V.ref++[.ref q]))=H4 at Yj UW Yk Yl UX Ym ⊢
   obtain⟨pl,y,eq,ow,dy⟩:=id UX
   refine⟨_,rfl,q,_,_,_,rfl,rfl,.of eq,au (j:=1) (v:=y) rfl,y,g,rfl,dy,λD xs H5 hD s5 eD P0=>?_⟩
   have MO:=s5 _ _ UW
   have nDW:D≠Wt:=(ak UW hD).symm
   have lx:xs.length=g.inner.length:=by rw[P0.length,AB]
   have Yn:=gE g
   refine⟨D,rfl,⟨_,.of eD⟩,NF (xs:=xs) (λi σ H'=>∃(rs:List Addr) (v4 v5:Option V),σ=[some x,some (.ref Wt),some (.ref Fo),some (.ref q),v4,v5]/\KB Wt H5 H'/\H' Wt=some (.lst ((ws'++rs).map V.ref))/\bV K H' rs ((kids ns 0 g.inner).take i))
    ⟨[],_,_,rfl,KB.refl _ _,by rw[BS];exact MO,.nil⟩ (λi σ H' _ ⟨_,_,_,_,h,_⟩=>.of (h _ _ eD nDW)) ?_ ?_⟩
   ·rintro i z pp σ H6 hz ⟨rs,v4,v5,rfl,k6,UY,P1⟩ hpp
    have sp:=Same.new (o:=.tup [.int i,z]) hpp
    refine⟨pp,_,rfl,.of af,rfl,_,_,rfl,_,_,rfl,rfl,?_⟩
    obtain⟨dz,MP,MK⟩:=P0.get hz
    rw[AW] at MP
    cases eh:g.inner[i]? with
    | none=>rw[eh] at MP;cases MP
    | some h=>
     rw[eh] at MP
     have ZQ:h.dt=dz:=AS MP
     subst ZQ
     have mG:aW H5 H6:=aW.kb MO k6
     have MQ:iG K H5 H6:=KB.kts MO k6
     have OT:H6 pl=some (.tup (cz ns)):=mG _ _ (s5 _ _ ow)
     have eq6:H6 q=some (.tup [.ref pl,y]):=mG _ _ (s5 _ _ eq)
     have UZ:=sp _ _ UY
     have U_:=fm (MQ.trans sp.kts) _ _ h.gA MK
     have U0:=bV.keep sp.kt sp.kts P1
     have U1:=sp _ _ OT
     have Yo:=sp _ _ eq6
     have k7:KB Wt H5 (upd H6 pp (.tup [.int i,z])):=k6.trans sp.kb
     generalize upd H6 pp (.tup [.int i,z])=H7 at UZ U_ U0 U1 Yo k7 ⊢
     refine⟨_,rfl,.inl ⟨rfl,_,.of UZ⟩,_,rfl,q,_,_,_,rfl,rfl,.of Yo,au (j:=0) (v:=.ref pl) rfl,_,rfl,by show 1<=sizeLine;decide,λoo hoo=>?_⟩
     have so:=Same.new (o:=.tup [.int (i:Int)]) hoo
     have MS:(upd H7 oo (.tup [.int (i:Int)])) oo=some (.tup [.int (i:Int)]):=af
     have done:∀(pn:Addr) (H8:Hp),Same H7 H8->H8 pn=some (.tup (cz (ns++[i])))->∀jq,H8 jq=none->
       H8 Wt=some (.lst ((ws'++rs).map V.ref))/\(∃(rs':List Addr) (v4 v5:Option V),[some x,some (.ref Wt),some (.ref Fo),some (.ref q),some (.int (i:Int)),some z]=[some x,some (.ref Wt),some (.ref Fo),some (.ref q),v4,v5]/\
        KB Wt H5 (upd (upd H8 jq (.tup [.ref pn,z])) Wt (.lst ((ws'++rs).map V.ref++[.ref jq])))/\(upd (upd H8 jq (.tup [.ref pn,z])) Wt (.lst ((ws'++rs).map V.ref++[.ref jq]))) Wt=some (.lst ((ws'++rs').map V.ref))/\
        bV K (upd (upd H8 jq (.tup [.ref pn,z])) Wt (.lst ((ws'++rs).map V.ref++[.ref jq]))) rs' ((kids ns 0 g.inner).take (i+1))):=λpn H8 s8 U2 jq rf=>by
      have Yp:=s8 _ _ UZ
      have s9:=Same.new (o:=.tup [.ref pn,z]) rf
      have Yq:=s9 _ _ Yp
      have kt9:=aW.lst (o:=.lst ((ws'++rs).map V.ref++[.ref jq])) Yq
      have Yr:iG K (upd H8 jq (.tup [.ref pn,z])) (upd (upd H8 jq (.tup [.ref pn,z])) Wt (.lst ((ws'++rs).map V.ref++[.ref jq]))):=KB.kts Yq KB.write
      refine⟨Yp,rs++[jq],_,_,rfl,((k7.trans s8.kb).trans s9.kb).trans KB.write,?_,?_⟩
      ·rw[af];simp
      ·have ek:(kids ns 0 g.inner).take (i+1)=(kids ns 0 g.inner).take i++[(ns++[i],h)]:=d8 (by rw[qc,eh,DD];rfl)
       rw[ek]
       refine qd (bV.keep ((s8.kt.trans s9.kt).trans kt9) ((s8.kts.trans s9.kts).trans Yr) U0) (.cons ⟨pn,z,kt9 _ _ af,kt9 _ _ (s9 _ _ U2),fm ((s8.kts.trans s9.kts).trans Yr) _ _ h.gA U_⟩ .nil)
     have lr:rs.length<=2:=by rw[AX U0,Ao,q_];omega
     have lw:((ws'++rs).map V.ref).length<sizeLine:=by
      rw[AB,AG]
      have lw':ws'.length=zp.length:=AX pw'
      have:zp.length<=(zp.map λe=>e.2.size).sum:=Jd zp
      rw[AJ,D1] at hsz
      exact A7 (show _<=80000 by omega) (by decide)
     refine⟨pl,oo,cz ns,[.int (i:Int)],rfl,rfl,.of (so _ _ U1),.of MS,by simp,?_,λhn=>?_,λhn pn hpn=>?_⟩
     ·have:ns.length<=15:=zm hdp (od.here (ns,g) (.inl (by simp)))
      show(cz ns).length+1<=sizeLine
      rw[cz,AB]
      exact BB (show _<=100 by omega) (by decide)
     ·have hn':ns=[]:=by cases ns with | nil=>rfl | cons _ _=>cases hn
      subst hn'
      refine⟨_,rfl,by show 2<=sizeLine;decide,λjq rf=>?_⟩
      obtain⟨d1,d2⟩:=done oo _ so MS jq rf
      exact⟨Wt,_,_,rfl,rfl,(Same.new rf) _ _ d1,lw,d2⟩
     ·have spn:=Same.new (o:=.tup (cz ns++[.int (i:Int)])) hpn
      refine⟨_,rfl,by show 2<=sizeLine;decide,λjq rf=>?_⟩
      obtain⟨d1,d2⟩:=done pn _ (so.trans spn) (by rw[af,cz,cz,AJ];rfl) jq rf
      exact⟨Wt,_,_,rfl,rfl,(Same.new rf) _ _ d1,lw,d2⟩
   ·rintro σ H6 ⟨rs,v4,v5,rfl,k6,UY,P1⟩
    rw[lx,Bp (by rw[q_];exact AM _)] at P1
    have mG:aW H4 H6:=s5.kt.trans (aW.kb MO k6)
    have MQ:iG K H4 H6:=s5.kts.trans (KB.kts MO k6)
    have nFW:=UQ.symm
    have sz:=zk ns g.inner 0
    have sg:=size_inner g
    refine⟨ws'++rs,fs++[q],zp++kids ns 0 g.inner,fe++[(ns,g)],_,_,_,rfl,(Ym.trans s5).kbn hW0 k6,UY,k6 _ _ (s5 _ _ Yj) nFW,qd (bV.keep mG MQ Yk) P1,qd (bV.keep mG MQ Yl) (.cons (UX.keep mG MQ) .nil),od.step,?_,?_⟩
    ·rw[AJ,AJ,D1,D1,sz]
     show _<_+(g.size+0)
     omega
    ·rw[AJ,D1,sz,AG]
     rw[AJ,D1] at hsz
     have hsz':fe.length+((zp.map λe=>e.2.size).sum+(g.size+0))<=70000:=hsz
     show fe.length+1+_<=70000
     omega
  ·have wem:ws=[]:=by
    cases ws with
    | nil=>rfl
    | cons q qs=>exact absurd rfl hem
   subst wem
   have wee:we=[]:=by cases pw;rfl
   subst wee
   refine⟨_,rfl,Fo,_,rfl,.of Ye,λl hl=>?_⟩
   have sl:=Same.new (o:=.lst (fs.map V.ref).reverse) hl
   refine k l fs.reverse fe.reverse _ (s2'.free hl) (s2'.trans sl) (by rw[af,Fn]) ?_ od.late (by rw[B8];omega)
   exact Jf (bV.keep sl.kt sl.kts pf)
theorem KB.ZR{K:AD}{d:Addr}{kvs:List (List Key×V)}{H H':Hp}(h:H d=some (.dT kvs))(k:KB d H H'):iG K H H':=λa ys e=>by
 rcases e with(e | ⟨o,e⟩) | e
 ·exact .inl (.inl (k _ _ e (fL e h (λz=>nomatch z))))
 ·exact .inl (.inr ⟨o,k _ _ e (fL e h (λz=>nomatch z))⟩)
 ·exact .inr e
theorem aW.dT{d:Addr}{kvs:List (List Key×V)}{H H':Hp}(h:H d=some (.dT kvs))(k:KB d H H'):aW H H':=λb ys e=>k b _ e (fL e h (λz=>nomatch z))
def gU(H:Hp):List Addr->List (List Str)->Prop:=Bv λr ks=>H r=some (.tup (ks.map V.str))
theorem gU.keep{H H':Hp}(k:aW H H'):∀{rs:List Addr} {cg:List (List Str)},gU H rs cg->gU H' rs cg
 | _,_,.nil=>.nil
 | _,_,.cons a t=>.cons (k _ _ a) (gU.keep k t)
theorem gU.get{H:Hp}:∀{rs:List Addr} {cg:List (List Str)} {i:Nat} {r:Addr},gU H rs cg->rs[i]? =some r->∃ks,cg[i]? =some ks/\H r=some (.tup (ks.map V.str))
 | _,_,_,_,.nil,h=>by simp at h
 | _,_,0,_,.cons a _,h=>by simp at h;subst h;exact⟨_,rfl,a⟩
 | _,_,i+1,_,.cons _ t,h=>by
  simp only[B3] at h ⊢
  exact gU.get t h
theorem Kl(f:az):inV (V.str f.word) [V.str "some",V.str "each"]=f.binds.isSome:=by
 have e:inV (V.str f.word) [V.str "some",V.str "each"]=decide (f.word∈[("some":Str),"each"]):=qG f.word [("some":Str),"each"]
 rw[e]
 have w1:decide (("same":Str)∈[("some":Str),"each"])=false:=by decide+kernel
 have w2:decide (("less":Str)∈[("some":Str),"each"])=false:=by decide+kernel
 have w3:decide (("sign":Str)∈[("some":Str),"each"])=false:=by decide+kernel
 have w4:decide (("alike":Str)∈[("some":Str),"each"])=false:=by decide+kernel
 have w5:decide (("not":Str)∈[("some":Str),"each"])=false:=by decide+kernel
 have w6:decide (("and":Str)∈[("some":Str),"each"])=false:=by decide+kernel
 have w7:decide (("or":Str)∈[("some":Str),"each"])=false:=by decide+kernel
 have w8:decide (("some":Str)∈[("some":Str),"each"])=true:=by decide+kernel
 have w9:decide (("each":Str)∈[("some":Str),"each"])=true:=by decide+kernel
 cases f with
 | same t u=>exact w1
 | less t u=>exact w2
 | sign a t s=>exact w3
 | alike a t c u=>exact w4
 | no f=>exact w5
 | and f g=>exact w6
 | or f g=>exact w7
 | some n f=>exact w8
 | each n f=>exact w9
theorem pF{N:Nat}:∀{cg:List (List Str)},(∀ks∈cg,ks.length<=N)->cg.flatten.length<=N*cg.length
 | [],_=>BG _
 | ks::cg,h=>by
  rw[List.flatten_cons,AG,A4]
  have h1:=h ks AZ
  have h2:=pF (cg:=cg) λx hx=>h x (AV _ hx)
  rw[Nat.mul_succ]
  omega
def MT(K:AD):Sp:=λvs H Q _=>∃(x:V) (f:az) (ss:List Str) (I:Addr) (rs:List Addr) (cg:List (List Str)),vs=[x,.ref I]/\aq K H x f.dt/\f.Over ss/\ss.length<=10/\H I=some (.lst (rs.map V.ref))/\gU H rs cg/\cg.length=f.inner.length/\
 (∀(j:Nat) (ks:List Str) (g:az),cg[j]? =some ks->f.inner[j]? =some g->dM ks g)/\∀(D:Addr) (ks:List Str) (H':Hp),H D=none->Same H H'->H' D=some (.tup (ks.map V.str))->dM ks f->Q (.ref D) H'
theorem gV:aO ["saying","inner","names","some"] ["saying","inner"] (ah dG):=⟨rfl,rfl,rfl,by decide+kernel,rfl,by decide+kernel,by decide+kernel⟩
theorem wO{a:bR}{b:nH}(T:Txt K mg a)(Y:jO K w.params mg b):aR P w K mg base bj 2 a.fV a.gL ["saying","inner"] (MT K):=by
 have zq:aR P w K mg base bj 1 a.fU a.gK ["saying"] (qw K):=wN T Y
 refine T.yE.ok gV (λvs H Q E h=>?_) (λcdv A outer s H vs Q E hr h=>?_)
 ·obtain⟨x,f,ss,I,rs,cg,rfl,_⟩:=h
  rfl
 ·obtain⟨x,f,ss,I,rs,cg,rfl,hf,ov,hss,eI,tp,lk,fr,k⟩:=h
  have wQ:aP 1 _:=hr
  obtain⟨a,xs,rfl,hq,h0,_,hbd⟩:=vP f hf
  refine⟨_,(ai (ay (i:=2) gV.nd rfl (Ad rfl) (aA zq wQ rfl T.yB T.yC T.yD .nil aK (ae (pv 0) ag)))
  (ai (dg A0 rfl (cH (pv 1)) (aH (i:=3) gV.nd rfl (Ad rfl))
   (av (cG (dO Au Cu Cv (JU K) (pv 2) (ae (pv 3) ag)))))
  (ai (dN (bx (xR K) (aB (ax K) (pv 0) aj (λ_ _=>rfl)) (bf (ae bH (ae bH ag))) (by with_unfolding_all rfl))
   (av (gc (i:=2) (aG.mk' (esc:=ah dG) (N:=["saying","inner","names","some"]) (own:=["name"]) (aI:=["saying"]) (bJ:=[0]) rfl rfl (by decide+kernel)) rfl (cH (pv 2)) (λ_ _ _ _=>(aH (i:=0) (show A3 (["name","saying"]:List Str) by decide+kernel) rfl (Ad rfl))) (λ_ _ _ _=>(qE (bx pR (pv 0) (aB (ax K) (pv 1) aj (λ_ _=>rfl)) (bD _)))) (λ_ _ _ _=>(pv 0)) gV.nd rfl rfl))
   cp)
  (av (aQ (bF (bG K) (by rfl) T.b_ bS (ae (aL (xX rfl) (by rfl) T.qZ oN (ae (bF (Lq rfl) (by rfl) T.Xf S6 (ae (pv 2) ag)) ag)) ag))))))),?_⟩
  refine⟨_,rfl,_,f,ss,rfl,hf,ov,λN H1 hN s1 eN=>?_⟩
  have nIN:I≠N:=ak eI hN
  have lr:rs.length=cg.length:=AX tp
  have li:=gE f
  have P2:=zj ov
  have kl:∀ks∈cg,ks.length<=10:=λks hks=>by
   obtain⟨j,hj⟩:=BH hks
   have hl:j<f.inner.length:=by rw[<-lk];exact(AF.mp hj).1
   have:=(fr j ks _ hj (As hl)).len (tf ov _ (C0 hl))
   omega
  refine⟨_,rfl,I,rfl,⟨_,.of (s1 _ _ eI)⟩,iK (xs:=rs.map V.ref) (λi σ H'=>∃v3:Option V,σ=[some (.ref a),some (.ref I),some (.ref N),v3]/\KB N H1 H'/\H' N=some (.lst ((f.gG++(cg.take i).flatten).map V.str)))
   ⟨none,rfl,KB.refl _ _,by rw[List.take_zero,List.flatten_nil,BS];exact eN⟩ (λi σ H' _ ⟨_,_,h,_⟩=>.of (h _ _ (s1 _ _ eI) nIN)) ?_ ?_⟩
  ·rintro i y σ H2 hy ⟨v3,rfl,k2,Jh⟩
   obtain⟨r,rfl,hr'⟩:=zo hy
   obtain⟨ks,Ys,er⟩:=gU.get tp hr'
   have kt:aW H1 H2:=aW.kb eN k2
   have er2:=kt _ _ (s1 _ _ er)
   have l1:=pF (N:=10) (cg:=cg.take i) λz hz=>kl z (CH hz)
   have l2:(cg.take i).length<=2:=by rw[Ao];omega
   have l3:=kl ks (AL Ys)
   refine⟨_,rfl,.inl ⟨rfl,_,.of Jh⟩,_,rfl,N,r,_,_,rfl,rfl,Jh,.of er2,?_,_,rfl,k2.trans KB.write,?_⟩
   ·rw[AB,AB,AG]
    exact BB (show _<=100 by omega) (by decide)
   ·rw[af,d8 Ys,List.flatten_append,<-DP,AJ]
    simp
  rintro σ H2 ⟨v3,rfl,k2,Jh⟩
  rw[AB,lr,Ax] at Jh
  have s2:Same H H2:=s1.kbn hN k2
  have l1:=pF kl
  have OU:∀y,y∈f.gG++cg.flatten↔(y∈f.gG∨∃g∈f.inner,g.Free y):=λy=>by
   rw[Ab,List.mem_flatten]
   constructor
   ·rintro(z | ⟨ks,hks,hy⟩)
    ·exact .inl z
    ·obtain⟨j,hj⟩:=BH hks
     have hl:j<f.inner.length:=by rw[<-lk];exact(AF.mp hj).1
     exact .inr ⟨_,C0 hl,((fr j ks _ hj (As hl)).mem y).mp hy⟩
   ·rintro(z | ⟨g,hg,hy⟩)
    ·exact .inl z
    ·obtain⟨j,hj⟩:=BH hg
     have hl:j<cg.length:=by rw[lk];exact(AF.mp hj).1
     exact .inr ⟨_,C0 hl,((fr j _ g (As hl) hj).mem y).mpr hy⟩
  have len0:(f.gG++cg.flatten).length<=40:=by rw[AG];omega
  generalize f.gG++cg.flatten=P4 at Jh OU len0
  dsimp only[aJ]
  refine NH (t:=oI _ _ _) (u:=So _) (λσ H'=>∃(L:Addr) (ls:List Str) (v3:Option V),σ=[some (.ref a),some (.ref I),some (.ref L),v3]/\Same H H'/\H' L=some (.lst (ls.map V.str))/\(∀y,y∈ls↔f.Free y)/\ls.length<=40) ?re (λrest=>?ifp)
  case re=>
   rintro σ H3 ⟨L,ls,v3,rfl,s3,eL,mem,ll⟩
   refine⟨_,rfl,L,ls,rfl,.of eL,A7 (show ls.length+1<=41 by omega) (by decide),λp ks hp nd mk lk2=>?_⟩
   have oC:∀y,y∈ks↔f.Free y:=λy=>(mk y).trans (mem y)
   have l10:ks.length<=ss.length:=jg nd λy hy=>gm ov ((oC y).mp hy)
   have sp:=Same.new (o:=xW P w p ks) hp
   refine⟨p,ks,rfl,af,by omega,λp2 zs hp2 perm zg=>?_⟩
   have Ml:=Same.new (o:=.lst (zs.map V.str)) hp2
   refine⟨p2,_,rfl,.inl ⟨.of af,λD hD=>?_⟩⟩
   have sD:=Same.new (o:=.tup (zs.map V.str)) hD
   exact k D zs _ ((s3.trans (sp.trans Ml)).free hD) (s3.trans ((sp.trans Ml).trans sD)) af ⟨zg,perm.nodup_iff.mpr nd,λy=>perm.mem_iff.trans (oC y)⟩
  case ifp=>
   refine⟨_,rfl,a,xs,0,.str f.word,rfl,rfl,s2.qF hq,au (j:=0) h0,by show 2<=sizeLine;decide,λZ hZ=>⟨Z,_,rfl,.inr (.of af),rfl,rfl,_,rfl,?_⟩⟩
   have sZ:=Same.new (o:=.tup [.str "some",.str "each"]) hZ
   have s3:=s2.trans sZ
   have ti:=sZ _ _ Jh
   generalize upd H2 Z (.tup [.str "some",.str "each"])=H3 at s3 ti ⊢
   have ew:(if false=true then !inV (V.str f.word) [V.str "some",V.str "each"] else inV (V.str f.word) [V.str "some",V.str "each"])=f.binds.isSome:=by rw[if_neg (by decide),Kl]
   rw[ew]
   cases eb:f.binds with
   | none=>
    refine dP (rest _ _ ⟨N,P4,_,rfl,s3,ti,λy=>?_,len0⟩)
    rw[OU y,zi,eb]
    simp
   | some n=>
    refine iL ?_
    have at1:=hbd n eb
    refine⟨_,rfl,N,rfl,⟨_,.of ti⟩,λC hC=>?_⟩
    refine dn (xs:=P4.map V.str) (λj σ H'=>∃v:Option V,σ=[v,some (.ref a)]/\Same H3 H'/\H' C=some (.lst (((P4.take j).filter λy=> !decide (y=n)).map V.str)))
     ⟨none,?sg,Same.new hC,af⟩ (λj σ H' _ ⟨_,_,s,_⟩=>.of (s _ _ ti)) ?_ ?_
    case sg=>rfl
    ·rintro j y σ H4 hy ⟨v,rfl,s4,eC⟩
     obtain⟨z,rfl,ez⟩:=me hy
     have ed:decide (V.str z=V.str n)=decide (z=n):=decide_eq_decide.mpr ⟨λh=>by injection h,λh=>by rw[h]⟩
     refine⟨_,rfl,_,rfl,a,xs,1,.str n,rfl,rfl,(s3.trans s4).qF hq,au (j:=1) at1,rfl,_,rfl,?_⟩
     rw[ed]
     refine cW (λhh=>?_) (λhh=>?_)
     ·refine⟨_,rfl,_,eC,?_,_,rfl,s4.kbn hC KB.write,?_⟩
      ·rw[AB]
       refine A7 (GW _ _) ?_
       rw[Ao]
       exact A7 (show min j P4.length<=40 by omega) (by decide)
      ·rw[af,d8 ez,List.filter_append,AJ]
       simp[hh]
     ·refine⟨_,rfl,s4,?_⟩
      have hh':(!decide (z=n))=false:=by simpa using hh
      rw[eC,d8 ez,List.filter_append]
      simp[hh']
    rintro σ H4 ⟨v,rfl,s4,eC⟩
    rw[AB,Ax] at eC
    refine rest _ _ ⟨C,_,_,rfl,s3.trans s4,eC,λy=>?_,BB (GW _ _) len0⟩
    rw[GD,OU y,zi,eb]
    constructor
    ·rintro⟨a1,a2⟩
     exact⟨a1,λz=>by rw[<-AS z] at a2;simp at a2⟩
    ·rintro⟨a1,a2⟩
     exact⟨a1,by simpa using λz=>a2 (by rw[z])⟩
def keyOf(ns:List Nat):List Key:=ns.map λ(n:Nat)=>Dx (n:Int)
theorem zr(ns:List Nat):cz ns=(keyOf ns).map kV:=by
 unfold cz keyOf
 rw[EG]
 rfl
theorem Ji{ss:List Str}:∀(ns:List Nat) (f g:az),f.Over ss->f.at ns=some g->g.Over ss
 | [],f,g,o,e=>by
  have e':f=g:=AS e
  rw[<-e'];exact o
 | n::ns,f,g,o,e=>by
  have e':(f.inner[n]?).bind (λg=>g.at ns)=some g:=e
  obtain⟨u,eu,ea⟩:=Bl.mp e'
  exact Ji ns u g (tf o u (AL eu)) ea
theorem vQ:∀{ns ms:List Nat},keyOf ns=keyOf ms->ns=ms
 | [],[],_=>rfl
 | [],_::_,h=>by cases h
 | _::_,[],h=>by cases h
 | n::ns,m::ms,h=>by
  have h1:(Dx (n:Int):Key)=Dx (m:Int):=(List.cons.inj h).1
  have h2:(n:Int)=m:=Sum.inl.inj h1
  rw[vQ (List.cons.inj h).2,Int.ofNat_inj.mp h2]
def Known(H:Hp)(kvs:List (List Key×V))(es:List Ent):Prop:=∀e∈es,∃r ks,bt kvs (keyOf e.1)=some (.ref r)/\H r=some (.tup (ks.map V.str))/\dM ks e.2
theorem Km{H:Hp}{kvs:List (List Key×V)}{g:az}{ns:List Nat}{es:List Ent}(kn:Known H kvs es)(hk:∀(j:Nat) (h:az),g.inner[j]? =some h->(ns++[j],h)∈es):
  ∃(rs:List Addr) (cg:List (List Str)),gU H rs cg/\cg.length=g.inner.length/\(∀(j:Nat) (u:V),(rs.map V.ref)[j]? =some u->bt kvs (keyOf (ns++[j]))=some u)/\
   ∀(j:Nat) (ks:List Str) (h:az),cg[j]? =some ks->g.inner[j]? =some h->dM ks h:=by
 have all:∀n,n<=g.inner.length->∃(rs:List Addr) (cg:List (List Str)),gU H rs cg/\cg.length=n/\(∀(j:Nat) (u:V),(rs.map V.ref)[j]? =some u->bt kvs (keyOf (ns++[j]))=some u)/\
   ∀(j:Nat) (ks:List Str) (h:az),cg[j]? =some ks->g.inner[j]? =some h->dM ks h:=by
  intro n
  induction n with
  | zero=>exact λ_=>⟨[],[],.nil,rfl,λj u z=>by simp at z,λj ks h z=>by simp at z⟩
  | succ n ih=>
   intro hn
   obtain⟨rs,cg,tp,lk,vs,fr⟩:=ih (by omega)
   have lrs:rs.length=cg.length:=AX tp
   obtain⟨h,hh⟩:∃h,g.inner[n]? =some h:=⟨_,As hn⟩
   obtain⟨r,ks,ev,er,MU⟩:=kn _ (hk n h hh)
   refine⟨rs++[r],cg++[ks],bA tp (.cons er .nil),by rw[AG,lk];rfl,λj u z=>?_,λt ks' h' z1 z2=>?_⟩
   ·rw[AJ] at z
    by_cases lt:j<rs.length
    ·rw[An (by rw[AB];exact lt)] at z
     exact vs j u z
    ·have hl:=(AF.mp z).1
     rw[AG,AB] at hl
     have hl':j<rs.length+1:=hl
     have e:j=n:=by omega
     subst e
     rw[Aj (by rw[AB];omega),AB,lrs,lk,Bz] at z
     have z':V.ref r=u:=AS z
     rw[<-z'];exact ev
   ·by_cases lt:t<cg.length
    ·rw[An lt] at z1
     exact fr t ks' h' z1 z2
    ·have hl:=(AF.mp z1).1
     rw[AG] at hl
     have hl':t<cg.length+1:=hl
     have e:t=cg.length:=by omega
     subst e
     rw[Aj (AM _),Bz] at z1
     have z1':ks=ks':=AS z1
     rw[lk,hh] at z2
     have z2':h=h':=AS z2
     rw[<-z1',<-z2'];exact MU
 exact all _ (AM _)
def zt(K:AD):Sp:=λvs H Q _=>∃(D pl:Addr) (y:V) (g:az) (kvs:List (List Key×V)) (ns:List Nat) (us:List V),vs=[.ref D,.ref pl,y]/\aq K H y g.dt/\H D=some (.dT kvs)/\H pl=some (.tup (cz ns))/\ns.length<=15/\us.length=g.inner.length/\
 (∀(j:Nat) (u:V),us[j]? =some u->bt kvs (keyOf (ns++[j]))=some u)/\∀(C:Addr) (H':Hp),H C=none->Same H H'->H' C=some (.lst us)->Q (.ref C) H'
def vR(K:AD):Sp:=λvs H Q _=>∃(x:V) (f:az) (ss:List Str),vs=[x]/\aq K H x f.dt/\f.deep<=15/\f.Over ss/\ss.length<=10/\
 ∀(D:Addr) (kvs:List (List Key×V)) (r:Addr) (ks:List Str) (H':Hp),Same H H'->H' D=some (.dT kvs)->bt kvs []=some (.ref r)->H' r=some (.tup (ks.map V.str))->dM ks f->Q (.ref D) H'
def MV(K:AD):Sp:=λvs H Q _=>∃(x:V) (f:az) (ss:List Str),vs=[x]/\aq K H x f.dt/\f.deep<=15/\f.Over ss/\ss.length<=10/\
 ∀(r:Addr) (ks:List Str) (H':Hp),Same H H'->H' r=some (.tup (ks.map V.str))->dM ks f->Q (.ref r) H'
theorem rg:aO ["told","place","saying"] ["told","place","saying"] (ah cE):=⟨rfl,rfl,rfl,by decide+kernel,rfl,by decide+kernel,by decide+kernel⟩
theorem rh{a:bR}{b:lQ}(T:Txt K mg a)(U:ja K w.params mg b):aR P w K mg base bj 2 a.d_ a.fw ["told","place","saying"] (zt K):=by
 have jA:aR P w K mg base bj 1 a.dS a.eX ["saying"] (uj K):=mI T U
 refine T.sk.ok rg (λvs H Q E h=>?_) (λcdv A outer s H vs Q E hr h=>?_)
 ·obtain⟨D,pl,y,g,kvs,ns,us,rfl,_⟩:=h
  rfl
 ·obtain⟨D,pl,y,g,kvs,ns,us,rfl,dy,eD,ow,hns,Ja,hus,k⟩:=h
  have i6:aP 1 _:=hr
  refine⟨_,(av (aQ (bN (aG.mk' (esc:=ah cE) (N:=["told","place","saying"]) (own:=["number"]) (aI:=["told","place"]) (bJ:=[0,1]) rfl rfl (by decide+kernel)) rfl (cj rfl T.cZ (ae (aL (bu K) (by rfl) T.cF bW (ae (aA jA i6 rfl T.oi T.oj T.om .nil aK (ae (pv 2) ag)) ag)) ag)) (λ_ _ _ _=>(aH (i:=0) (show A3 (["number","told","place"]:List Str) by decide+kernel) rfl (Ad rfl))) (λ_ _ _ _=>a_) (λ_ _ _ _=>(dr (ck hr) (pv 1) (aV (mY K) (pv 2) (bf (ae (pv 0) ag))) (λ_ _=>rfl)))))),?_⟩
  refine⟨_,rfl,y,g,rfl,dy,λD2 xs H4 hD2 s4 ZS P0=>?_⟩
  have lx:xs.length=g.inner.length:=by rw[P0.length,AB]
  refine⟨_,xs.length,rfl,.inl ⟨_,.of ZS,rfl⟩,?_⟩
  have Yn:=gE g
  have eD4:=s4 _ _ eD
  have ZT:=s4 _ _ ow
  refine⟨_,rfl,by omega,by omega,λC hC=>?_⟩
  refine dZ (lo:=0) (λj σ H'=>∃(v:Option V),σ=[v,some (.ref D),some (.ref pl)]/\Same H4 H'/\H' C=some (.lst (us.take j)))
   ⟨none,?sg,Same.new hC,af⟩ ?_ ?_
  case sg=>rfl
  ·rintro j σ H5 hj ⟨v,rfl,s5,eC⟩
   have hj':j<us.length:=by omega
   have ej:(0:Int)+(j:Int)=(j:Int):=by omega
   obtain⟨u,hu⟩:∃u,us[j]? =some u:=⟨_,As hj'⟩
   have ev:=hus j u hu
   have done:∀(pn:Addr) (H6:Hp),Same H5 H6->H6 pn=some (.tup (cz (ns++[j])))->∃(a:Addr) (v:V),V.ref D=.ref a/\iM H6 a (.ref pn) (some v)/\∃ys,H6 C=some (.lst ys)/\ys.length<sizeLine/\
     ∃(v':Option V),[some (V.int (0+(j:Int))),some (.ref D),some (.ref pl)]=[v',some (.ref D),some (.ref pl)]/\Same H4 (upd H6 C (.lst (ys++[v])))/\(upd H6 C (.lst (ys++[v]))) C=some (.lst (us.take (j+1))):=λpn H6 s6 U2=>by
    have Yu:=s5.trans s6
    have eC6:=s6 _ _ eC
    refine⟨D,u,rfl,.inr ⟨kvs,keyOf (ns++[j]),pn,.inl (Yu _ _ eD4),rfl,by rw[U2,zr],ev.symm⟩,_,eC6,?_,_,rfl,Yu.kbn hC KB.write,by rw[af,d8 hu]⟩
    rw[Ao];exact AY (show min j us.length<10 by omega) (by decide)
   refine⟨_,rfl,_,rfl,_,rfl,by show 1<=sizeLine;decide,λoo hoo=>?_⟩
   have so:=Same.new (o:=.tup [.int (0+(j:Int))]) hoo
   have MS:(upd H5 oo (.tup [.int (0+(j:Int))])) oo=some (.tup (cz [j])):=by rw[af,ej];rfl
   have ZU:=s5 _ _ ZT
   refine⟨pl,oo,cz ns,cz [j],rfl,rfl,.of (so _ _ ZU),.of MS,by simp[cz],?_,λhn=>?_,λhn pn hpn=>?_⟩
   ·rw[cz,cz,AB,AB]
    exact BB (show _<=100 by simp;omega) (by decide)
   ·have hn':ns=[]:=by cases ns with | nil=>rfl | cons _ _=>cases hn
    have e1:cz (ns++[j])=cz [j]:=by rw[hn'];rfl
    exact done oo _ so (by rw[e1];exact MS)
   ·exact done pn _ (so.trans (Same.new hpn)) (by rw[af,cz,cz,cz,AJ])
  rintro σ H5 ⟨v,rfl,s5,eC⟩
  rw[Ag,lx,<-Ja,Ax] at eC
  exact k C H5 (s4.free hC) (s4.trans s5) eC
theorem eO:aO ["saying","names","place","part"] ["saying"] (ah cR):=⟨rfl,rfl,rfl,by decide+kernel,rfl,by decide+kernel,by decide+kernel⟩
theorem qi{a:bR}{b:lQ}{c:nH}(T:Txt K mg a)(U:ja K w.params mg b)(Y:jO K w.params mg c):aR P w K mg base bj 3 a.dI a.eK ["saying"] (vR K):=by
 have tj:aR P w K mg base bj 2 a.d_ a.fw ["told","place","saying"] (zt K):=rh T U
 have ri:aR P w K mg base bj 2 a.dH a.eJ ["saying"] (Jg K):=qh T U
 have zu:aR P w K mg base bj 2 a.fV a.gL ["saying","inner"] (MT K):=wO T Y
 refine T.qV.ok eO (λvs H Q E h=>?_) (λcdv A outer s H vs Q E hr h=>?_)
 ·obtain⟨x,f,ss,rfl,_⟩:=h
  rfl
 ·obtain⟨x,f,ss,rfl,hf,hdp,ov,hss,k⟩:=h
  have rj:aP 2 _:=hr
  have qj:aP 2 _:=hr
  have wR:aP 2 _:=hr
  refine⟨_,(ai (ay (i:=1) eO.nd rfl (Ad rfl) NC)
  (ai (dg A0 rfl (cH (aA ri qj rfl T.qS T.qT T.qU .nil aK (ae (pv 0) ag))) (xv rfl (cD (aH (i:=2) eO.nd rfl (Ad rfl)) (cD (aH (i:=3) eO.nd rfl (Ad rfl)) iJ)))
   (av (pU (ck hr) (pv 1) (pv 2) (aA zu wR rfl T.yF T.yG T.yH .nil aK (ae (pv 3) (ae (aA tj rj rfl T.sr T.sv T.sx .nil aK (ae (pv 1) (ae (pv 2) (ae (pv 3) ag)))) ag))) rfl)))
  (av (aQ (pv 1))))),?_⟩
  refine λD hD=>?_
  have sD:=Same.new (o:=.dT []) hD
  refine⟨_,rfl,x,f,rfl,fm sD.kts _ _ f.gA hf,hdp,λL qs es H2 hL s2 eL prs late les=>?_⟩
  have pe:H2 D=some (.dT []):=s2 _ _ af
  have nLD:L≠D:=(ak af hL).symm
  have Uq:qs.length=es.length:=AX prs
  have sH2:=sD.trans s2
  refine⟨L,rfl,⟨_,.of eL⟩,iK (xs:=qs.map V.ref) (λi σ H'=>∃(kvs:List (List Key×V)) (v2 v3:Option V),σ=[some x,some (.ref D),v2,v3]/\KB D H2 H'/\H' D=some (.dT kvs)/\kvs.length<=i/\Known H' kvs (es.take i))
   ⟨[],none,none,rfl,KB.refl _ _,pe,AM _,λe he=>by simp at he⟩ (λi σ H' _ ⟨_,_,_,_,h,_⟩=>.of (h _ _ eL nLD)) ?_ ?_⟩
  ·rintro i y0 σ H3 hy ⟨kvs,v2,v3,rfl,k3,P5,lkv,kn⟩
   obtain⟨q,rfl,hq⟩:=zo hy
   obtain⟨⟨ns,g⟩,he,pq⟩:=Jc prs hq
   have MW:aW H2 H3:=aW.dT pe k3
   have ks3:iG K H2 H3:=KB.ZR pe k3
   obtain⟨pl,y,eq,ow,dy⟩:=pq.keep MW ks3
   have hin:=AL he
   have P6:f.at ns=some g:=late.here _ hin
   have gov:=Ji ns f g ov P6
   have hi:i<es.length:=(AF.mp he).1
   refine⟨q,_,rfl,.of eq,rfl,_,_,rfl,_,_,rfl,rfl,?_⟩
   have Yn:=gE g
   obtain⟨rs,cg,tp,lk,vs',fr⟩:=Km (kvs:=kvs) (H:=H3) (g:=g) (ns:=ns) (es:=es.take i) kn (λj h hh=>by
    obtain⟨j',hj2,ee⟩:=late.kid i ns g he j h hh
    exact AL (i:=j') (by rw[FR hj2];exact ee))
   have lrs:rs.length=cg.length:=AX tp
   refine⟨_,rfl,_,rfl,_,rfl,_,rfl,D,pl,y,g,kvs,ns,rs.map V.ref,rfl,dy,P5,ow,zm hdp P6,by rw[AB,lrs,lk],vs',λC H5 hC s5 eC=>?_⟩
   refine⟨y,g,ss,C,rs,cg,rfl,fm s5.kts _ _ g.gA dy,gov,hss,eC,gU.keep s5.kt tp,lk,fr,λD3 ks H6 hD3 s6 ZV MU=>?_⟩
   have P7:=s5.trans s6
   have Yv:=P7 _ _ P5
   have OT:=P7 _ _ ow
   refine⟨_,rfl,_,rfl,D,_,rfl,iq.t (k:=keyOf ns) Yv (by rw[OT,zr]) (A7 (show kvs.length<=100000 by omega) (by decide)),?_⟩
   have Jj:aW H6 (upd H6 D (.dT (putK kvs (keyOf ns) (.ref D3)))):=aW.dT Yv KB.write
   refine⟨_,_,_,rfl,(k3.trans P7.kb).trans KB.write,af,BB (i7 _ _ _) (by omega),λe hm=>?_⟩
   rw[d8 he] at hm
   by_cases ek:keyOf e.1=keyOf ns
   ·have en:=vQ ek
    have eg:e.2=g:=by
     have h1:f.at e.1=some e.2:=by
      rcases Ab.mp hm with z | z
      ·exact late.here e (CH z)
      ·rw[AR.mp z];exact P6
     rw[en,P6] at h1
     exact(AS h1).symm
    exact⟨D3,ks,by rw[qD,if_pos ek],Jj _ _ ZV,by rw[eg];exact MU⟩
   ·rcases Ab.mp hm with z | z
    ·obtain⟨r,ks',a1,a2,a3⟩:=kn e z
     exact⟨r,ks',by rw[qD,if_neg ek];exact a1,Jj _ _ (P7.kt _ _ a2),a3⟩
    ·exact absurd (by rw[AR.mp z]) ek
  ·rintro σ H3 ⟨kvs,v2,v3,rfl,k3,P5,lkv,kn⟩
   rw[AB,Uq,Ax] at kn
   obtain⟨r,ks,a1,a2,a3⟩:=kn _ late.root
   exact⟨_,rfl,k D kvs r ks H3 (sH2.kbn hD k3) P5 a1 a2 a3⟩
theorem wU:aO ["saying"] ["saying"] (ah eU):=⟨rfl,rfl,rfl,by decide+kernel,rfl,by decide+kernel,by decide+kernel⟩
theorem wV{a:bR}{b:lQ}{c:nH}(T:Txt K mg a)(U:ja K w.params mg b)(Y:jO K w.params mg c):aR P w K mg base bj 4 a.fW a.gM ["saying"] (MV K):=by
 have rl:aR P w K mg base bj 3 a.dI a.eK ["saying"] (vR K):=qi T U Y
 refine T.yI.ok wU (λvs H Q E h=>?_) (λcdv A outer s H vs Q E hr h=>?_)
 ·obtain⟨x,f,ss,rfl,_⟩:=h
  rfl
 ·obtain⟨x,f,ss,rfl,hf,hdp,ov,hss,k⟩:=h
  have qk:aP 3 _:=hr
  refine⟨_,(av (aQ (dr (ck hr) (aA rl qk rfl T.qW T.qX T.qY .nil aK (ae (pv 0) ag)) (bf ag) (λ_ _=>rfl)))),?_⟩
  refine⟨_,rfl,x,f,ss,rfl,hf,hdp,ov,hss,λD kvs r ks H1 s1 eD ev er MU=>⟨by decide,λe he=>?_⟩⟩
  have se:=Same.new (o:=.tup []) he
  exact⟨D,.ref r,rfl,.inr ⟨kvs,[],e,.inl (se _ _ eD),rfl,af,ev.symm⟩,k r ks _ (s1.trans se) (se _ _ er) MU⟩
def f_(H:Hp)(a:Addr)(t:Term):Prop:=∃(b:Addr) (ps:List Addr),H a=some (.tup [.int t.num,.ref b])/\H b=some (.tup (ps.map V.ref))/\Bv (λ(p:Addr) (q:Str×Int)=>H p=some (.tup [.str q.1,.int q.2])) ps t.parts
theorem f_.keep{H H':Hp}{a:Addr}{t:Term}(h:f_ H a t)(k:aW H H'):f_ H' a t:=by
 obtain⟨b,ps,h1,h2,h3⟩:=h
 exact⟨b,ps,k _ _ h1,k _ _ h2,Paired.mP h3 λ_ _ z=>k _ _ z⟩
def fG(n:Str):List (Str×Int)->Int->Int
 | [],d=>d
 | p::ps,d=>fG n ps (if n=p.1 then p.2 else d)
def Term.at(t:Term)(n:Str):Int:=fG n t.parts 0
def nI(p:Str×Int):Key×V:=(Av p.1,.int p.2)
theorem tu(n:Str):∀(ps:List (Str×Int)) (kvs:List (Key×V)) (d:Int),(bt kvs (Av n)).getD (.int 0)=.int d->(bt (bP kvs (ps.map nI)) (Av n)).getD (.int 0)=.int (fG n ps d)
 | [],kvs,d,h=>h
 | p::ps,kvs,d,h=>by
  show(bt (bP (putK kvs (Av p.1) (.int p.2)) (ps.map nI)) (Av n)).getD (.int 0)=_
  refine tu n ps _ _ ?_
  rw[qD]
  by_cases e:n=p.1
  ·rw[if_pos (by rw[e]),if_pos e];rfl
  ·rw[if_neg (λz=>e (Sum.inr.inj z)),if_neg e];exact h
theorem Term.U3(t:Term)(n:Str):(bt (bP [] (t.parts.map nI)) (Av n)).getD (.int 0)=.int (t.at n):=tu n t.parts [] 0 rfl
def RS:Sp:=λvs H Q _=>∃(a nm:Addr) (t:Term) (ss:List Str),vs=[.ref a,.ref nm]/\f_ H a t/\t.parts.length<=100/\H nm=some (.tup (ss.map V.str))/\ss.length<=100/\∀(D:Addr) (H':Hp),H D=none->Same H H'->H' D=some (.lst ((ss.map t.at).map V.int))->Q (.ref D) H'
theorem qx:aO ["term","names","times"] ["term","names"] (ah ft):=⟨rfl,rfl,rfl,by decide+kernel,rfl,by decide+kernel,by decide+kernel⟩
theorem Hw{a:bR}(T:Txt K mg a):aR P w K mg base bj 1 a.jM a.lN ["term","names"] RS:=by
 refine T.J8.ok qx (λvs H Q E h=>?_) (λcdv A outer s H vs Q E hr h=>?_)
 ·obtain⟨ta,nm,t,ss,rfl,_⟩:=h
  rfl
 ·obtain⟨ta,nm,t,ss,rfl,⟨b,ps,e1,e2,e3⟩,lp,en,ls,k⟩:=h
  refine⟨_,(ai (ay (i:=2) qx.nd rfl (DK rfl) (bF (J0 hr.hd) (by rfl) T.Mj Iz (ae (aB (ax K) (pv 0) aj (λ_ _=>rfl)) ag)))
  (av (aQ (bN (aG.mk' (esc:=ah ft) (N:=["term","names","times"]) (own:=["name"]) (aI:=["times"]) (bJ:=[2]) rfl rfl (by decide+kernel)) rfl (fO (pv 1)) (λ_ _ _ _=>(aH (i:=0) (show A3 (["name","times"]:List Str) by decide+kernel) rfl (Ad rfl))) (λ_ _ _ _=>a_) (λ_ _ _ _=>(ND (ck hr) (pv 1) (pv 0) aj ⟨rfl,rfl,rfl,rfl⟩)))))),?_⟩
  have big:(10000:Nat)<=sizeLine:=by decide
  have pk:Bv (λ(p:Addr) (q:Key×V)=>H p=some (.tup [kV q.1,q.2])) ps (t.parts.map nI):=by
   clear lp e1 e2
   generalize t.parts=l at e3
   induction e3 with
   | nil=>exact .nil
   | cons h _ ih=>exact .cons h ih
  refine⟨_,rfl,ta,_,_,.ref b,rfl,rfl,.of e1,au (j:=1) rfl,b,ps,_,rfl,e2,pk,by rw[AB];omega,λD hD=>?_⟩
  have sD:=Same.new (o:=.dK (bP [] (t.parts.map nI))) hD
  dsimp only[aJ]
  refine⟨_,rfl,nm,rfl,⟨_,.of (sD _ _ en)⟩,λC hC=>?_⟩
  have hCD:D≠C:=ak (show(upd H D (.dK (bP [] (t.parts.map nI)))) D=some _ from af) hC
  have Yw:H C=none:=sD.free hC
  refine fj (xs:=ss.map V.str) (λi σ H'=>∃v:Option V,σ=[v,some (.ref D)]/\Same H H'/\H' D=some (.dK (bP [] (t.parts.map nI)))/\H' C=some (.lst (((ss.take i).map t.at).map V.int)))
   ⟨none,?sg,sD.trans (Same.new hC),by rw[ao hCD];exact af,af⟩ (λi σ H' _ ⟨_,_,s',_⟩=>.of (s' _ _ en)) ?_ ?_
  case sg=>rfl
  ·rintro i x σ H' hx ⟨v,rfl,s',d',c'⟩
   obtain⟨n,rfl,en'⟩:=me hx
   have hi:=(AF.mp en').1
   refine⟨_,rfl,D,rfl,.inl ⟨_,.inl d'⟩,_,rfl,_,.inl ⟨_,Av n,.inl d',rfl,rfl⟩,?_⟩
   rw[t.U3 n]
   refine⟨_,c',?_,_,rfl,s'.kbn Yw KB.write,by rw[ao hCD];exact d',?_⟩
   ·rw[AB,AB,Ao];omega
   ·rw[af,take_snoc en',AJ,AJ];rfl
  rintro σ H' ⟨v,rfl,s',d',c'⟩
  rw[AB,Ax] at c'
  exact k C H' Yw s' c'
def dot:List Int->List Int->Int
 | x::xs,y::ys=>x*y+dot xs ys
 | _,_=>0
def Xj:Sp:=λvs H Q _=>∃(a b:Addr) (xs ys:List Int),vs=[.ref a,.ref b]/\H a=some (.tup (xs.map V.int))/\H b=some (.lst (ys.map V.int))/\xs.length=ys.length/\ys.length<=100/\(∀x∈xs,0<=x/\x<100)/\∀H',Same H H'->Q (.int (dot xs ys)) H'
theorem um:∀(xs ys:List Int),(Ew (· * ·) xs ys).sum=dot xs ys
 | [],_=>rfl
 | _::_,[]=>rfl
 | x::xs,y::ys=>by rw[List.zipWith_cons_cons,Ed,um xs ys];rfl
theorem Jk{xs ys:List Int}{i:Nat}{x y:Int}(hx:xs[i]? =some x)(hy:ys[i]? =some y):Ew (· * ·) (xs.take (i+1)) (ys.take (i+1))=Ew (· * ·) (xs.take i) (ys.take i)++[x*y]:=by
 rw[take_snoc hx,take_snoc hy,List.zipWith_append]
 ·rfl
 ·have h1:=(AF.mp hx).1
  have h2:=(AF.mp hy).1
  rw[Ao,Ao];omega
theorem MX:aO ["letter","times"] ["letter","times"] (ah g_):=⟨rfl,rfl,rfl,by decide+kernel,rfl,by decide+kernel,by decide+kernel⟩
theorem MY{a:bR}(T:Txt K mg a):aR P w K mg base bj 1 a.ng a.oX ["letter","times"] Xj:=by
 refine T.Oe.ok MX (λvs H Q E h=>?_) (λcdv A outer s H vs Q E hr h=>?_)
 ·obtain⟨a1,a2,xs,ys,rfl,_⟩:=h
  rfl
 ·obtain⟨a1,a2,xs,ys,rfl,e1,e2,hl,hy,hx,k⟩:=h
  refine⟨_,(av (aQ (aL (vb K) (by rfl) T.PQ La (ae (bN (aG.mk' (esc:=ah g_) (N:=["letter","times"]) (own:=["figure","many"]) (aI:=[]) (bJ:=[]) rfl rfl (by decide+kernel)) rfl (IQ rfl T.Kc (ae (pv 0) (ae (pv 1) ag))) (λ_ _ _ _=>(md K (n:=2) rfl (cD (aH (i:=0) (show A3 (["figure","many"]:List Str) by decide+kernel) rfl (Ad rfl)) (cD (aH (i:=1) (show A3 (["figure","many"]:List Str) by decide+kernel) rfl (Ad rfl)) iJ)))) (λ_ _ _ _=>a_) (λ_ _ _ _=>(aV jd (pv 0) (pv 1)))) ag)))),?_⟩
  have big:(10000:Nat)<=sizeLine:=by decide
  refine⟨_,rfl,_,rfl,a1,a2,rfl,⟨_,.of e1⟩,⟨_,.of e2⟩,λC hC=>?_⟩
  have n2:a2≠C:=ak e2 hC
  refine vA (xs:=xs.map V.int) (ys:=ys.map V.int) (λi σ H'=>∃v1 v2:Option V,σ=[v1,v2]/\Same H H'/\H' C=some (.lst ((Ew (· * ·) (xs.take i) (ys.take i)).map V.int))) (by rw[AB,AB];exact hl)
   ⟨none,none,?sg,Same.new hC,af⟩ (λi σ H' _ ⟨_,_,_,s',_⟩=>⟨.of (s' _ _ e1),.of (s' _ _ e2)⟩) ?_ ?_
  case sg=>rfl
  ·rintro i u v p σ H1 hu hv ⟨v1,v2,rfl,s1,c1⟩ hp
   obtain⟨x,rfl,ex⟩:=iO hu
   obtain⟨y,rfl,ey⟩:=iO hv
   have hb:=hx x (AL ex)
   have sp:=Same.new (o:=.tup [.int x,.int y]) hp
   have hi:=(AF.mp ex).1
   refine⟨p,_,rfl,.of af,rfl,_,_,rfl,_,_,rfl,rfl,?_⟩
   refine⟨_,rfl,_,rfl,_,_,rfl,rfl,.inl ⟨by omega,by omega⟩,_,sp _ _ c1,?_,_,_,rfl,(s1.trans sp).kbn hC KB.write,?_⟩
   ·rw[AB,G8,Ao,Ao];omega
   ·rw[af,Jk ex ey,AJ];rfl
  rintro σ H1 ⟨v1,v2,rfl,s1,c1⟩
  rw[AB,Ax,hl,Ax] at c1
  refine⟨C,_,rfl,.of c1,?_⟩
  rw[um]
  exact k H1 s1
def RT:Sp:=λvs H Q _=>∃(b:Nat) (a:Addr) (ys:List Int),vs=[.int b,.ref a]/\b<=4/\H a=some (.lst (ys.map V.int))/\ys.length<=4/\∀(D:Addr) (H':Hp),H D=none->Same H H'->H' D=some (.lst (((lets b ys.length).map λl=>dot l ys).map V.int))->Q (.ref D) H'
theorem qe(b:Nat):∀(n:Nat) (l:List Int),l∈lets b n->∀x∈l,0<=x/\x<b
 | 0,l,h,x,hx=>by rw[show l=[] from AR.mp h] at hx;cases hx
 | n+1,l,h,x,hx=>by
  obtain⟨l',h1,h2⟩:=List.mem_flatMap.mp (show l∈(lets b n).flatMap λl=>(BM b).map λ(f:Nat)=>l++[(f:Int)] from h)
  obtain⟨f,hf,rfl⟩:=A1.mp h2
  have:=CT.mp hf
  rcases Ab.mp hx with z | z
  ·exact qe b n l' h1 x z
  ·rw[AR.mp z];omega
def cA(b:Nat)(ys:List Int):List Int:=(lets b ys.length).map λl=>dot l ys
theorem vS(b:Nat)(ys:List Int):(cA b ys).length=b ^ ys.length:=by unfold cA;rw[AB,fA]
theorem uo:aO ["base","times"] ["base","times"] (ah dc):=⟨rfl,rfl,rfl,by decide+kernel,rfl,by decide+kernel,by decide+kernel⟩
theorem uq{a:bR}(T:Txt K mg a):aR P w K mg base bj 2 a.gN a.iV ["base","times"] RT:=by
 have jy:=mE (P:=P) (w:=w) (base:=base) T
 have OV:=MY (P:=P) (w:=w) (base:=base) T
 refine T.wg.ok uo (λvs H Q E h=>?_) (λcdv A outer s H vs Q E hr h=>?_)
 ·obtain⟨b,ta,ys,rfl,_⟩:=h
  rfl
 ·obtain⟨b,ta,ys,rfl,hb4,e,hy,k⟩:=h
  have i4:aP 1 _:=hr
  have MZ:aP 1 _:=hr
  refine⟨_,(av (aQ (bN (aG.mk' (esc:=ah dc) (N:=["base","times"]) (own:=["letter"]) (aI:=["times"]) (bJ:=[1]) rfl rfl (by decide+kernel)) rfl (cH (aA jy i4 rfl T.oa T.og T.oh .nil aK (ae (pv 0) (ae (aL (bu K) (by rfl) T.cF bW (ae (pv 1) ag)) ag)))) (λ_ _ _ _=>(aH (i:=0) (show A3 (["letter","times"]:List Str) by decide+kernel) rfl (Ad rfl))) (λ_ _ _ _=>a_) (λ_ _ _ _=>(aA OV MZ rfl T.Og T.Oh T.Oi .nil aK (ae (pv 0) (ae (pv 1) ag))))))),?_⟩
  have big:(10000:Nat)<=sizeLine:=by decide
  refine⟨_,rfl,_,rfl,.ref ta,ys.length,rfl,.inl ⟨_,.of e,by rw[AB]⟩,b,ys.length,rfl,hb4,hy,λD ps H1 hD s1 d1 tp=>?_⟩
  refine⟨D,rfl,⟨_,.of d1⟩,λC hC=>?_⟩
  have e1:=s1 _ _ e
  have hpl:ps.length<=256:=by
   rw[AX tp,fA];exact d4 hb4 hy
  refine dn (xs:=ps.map V.ref) (λi σ H'=>∃v:Option V,σ=[v,some (.ref ta)]/\Same H1 H'/\H' C=some (.lst ((((lets b ys.length).take i).map λl=>dot l ys).map V.int)))
   ⟨none,?sg,Same.new hC,af⟩ (λi σ H' _ ⟨_,_,s',_⟩=>.of (s' _ _ d1)) ?_ ?_
  case sg=>rfl
  ·rintro i x σ H' hx ⟨v,rfl,s',c'⟩
   obtain⟨p,rfl,ep⟩:=jS hx
   obtain⟨l,el,hl⟩:=tp.get ep
   have hm:=AL el
   have hi:=(AF.mp ep).1
   refine⟨_,rfl,_,rfl,p,ta,l,ys,rfl,s' _ _ hl,s' _ _ e1,kf b _ l hm,by omega,λx hx=>by have:=qe b _ l hm x hx;omega,λH2 s2=>?_⟩
   refine⟨_,s2 _ _ c',?_,_,rfl,(s'.trans s2).kbn hC KB.write,?_⟩
   ·rw[AB,AB,Ao];omega
   ·rw[af,take_snoc el,AJ,AJ];rfl
  rintro σ H' ⟨v,rfl,s',c'⟩
  rw[AB,AX tp,Ax] at c'
  exact k C H' (s1.free hC) (s1.trans s') c'
def M_:Sp:=λvs H Q _=>∃(b n:Nat),vs=[.int b,.int n]/\2<=b/\b<=1000/\n<2 ^ 20000/\∀(D:Addr) (H':Hp),H D=none->Same H H'->H' D=some (.lst ((eG b n).map V.int))->Q (.ref D) H'
theorem jB:aO ["base","number","figures"] ["base","number"] (ah eP):=⟨rfl,rfl,rfl,by decide+kernel,rfl,by decide+kernel,by decide+kernel⟩
theorem wW{a:bR}(T:Txt K mg a):aR P w K mg base bj 1 a.ix a.js ["base","number"] M_:=by
 refine T.yj.ok jB (λvs H Q E h=>?_) (λcdv A outer s H vs Q E hr h=>?_)
 ·obtain⟨b,n,rfl,_⟩:=h
  rfl
 ·obtain⟨b,n,rfl,hb2,hb9,hn,k⟩:=h
  refine⟨_,(ai (ay (i:=2) jB.nd rfl (Ad rfl) (cf ag))
  (ai (fN A0 (bx pS (pv 1) aj (bD _))
   (ai (cG (dO Au A_ A' cy (pv 2) (ae (aV dQ (pv 1) (pv 0)) ag)))
   (av (ay (i:=1) jB.nd rfl (Ad rfl) (aV iN (pv 1) (pv 0))))))
  (av (aQ (pv 2))))),?_⟩
  refine⟨by decide,λD hD=>?_⟩
  have hlen:(eG b n).length<=20000:=yX hb2 20000 n hn
  refine Np (λσ H'=>∃(m:Nat) (pre:List Int),σ=[some (.int b),some (.int m),some (.ref D)]/\Same H H'/\H' D=some (.lst (pre.map V.int))/\pre++eG b m=eG b n)
   (λσ _=>match σ with | [_,some (.int m),_]=>m.toNat | _=>0) ⟨n,[],rfl,Same.new hD,af,rfl⟩ ?_ ?_
  ·rintro σ H1 ⟨m,pre,rfl,s1,e1,hp⟩
   refine⟨_,rfl,_,_,rfl,rfl,_,rfl,?_⟩
   refine cW (λhm=>?_) (λhm=>?_)
   ·have hm':0<m:=by have:=of_decide_eq_true hm;omega
    have hpl:pre.length<=20000:=by rw[<-hp,AG] at hlen;omega
    refine⟨_,rfl,.inl ⟨rfl,_,.of e1⟩,_,rfl,_,rfl,_,_,rfl,rfl,cpos (by omega),D,_,_,rfl,rfl,e1,?_,?_⟩
    ·rw[AB];exact A7 hpl (by decide)
    refine⟨_,rfl,_,rfl,_,_,rfl,rfl,⟨by omega,Mr hb9⟩,⟨m / b,pre++[((m % b:Nat):Int)],?_,s1.kbn hD KB.write,?_,?_⟩,?_⟩
    ·rw[C7];rfl
    ·rw[af,AJ,Dd];rfl
    ·rw[DP,<-hp,nB hb2 hm'];rfl
    ·show((m:Int) / (b:Int)).toNat<(m:Int).toNat
     rw[<-C7,Ag,Ag]
     exact Ep hm' (by omega)
   ·have hm':m=0:=by
     by_cases z:m=0
     ·exact z
     ·exact absurd (decide_eq_true (show(0:Int)<(m:Int) by omega)) hm
    subst hm'
    rw[jo,BS] at hp
    subst hp
    exact⟨_,rfl,k D H1 hD s1 e1⟩
  ·rintro σ H1 Q1 Q2 hQ ⟨v,e,i,j,e1,e2,c,e3,q⟩
   exact⟨v,e,i,j,e1,e2,c,e3,hQ _ _ q⟩
theorem Moves.at{n b:Nat}{mv:List (List Nat)}(h:Moves n b mv){r f:Nat}(hr:r<n)(hf:f<b):((mv.getD r []).getD f 0)<n:=by
 have h1:mv[r]? =some (mv.getD r []):=item_at [] (by rw[h.len];exact hr)
 obtain⟨l1,l2⟩:=h.lead _ (AL h1)
 have h2:=item_at 0 (show f<(mv.getD r []).length by omega)
 exact l2 _ (AL h2)
def go(mv:List (List Nat))(r:Nat)(fs:List Nat):Nat:=fs.foldl (λr f=>(mv.getD r []).getD f 0) r
theorem tD{n b:Nat}{mv:List (List Nat)}(h:Moves n b mv):∀(fs:List Nat) (r:Nat),r<n->(∀f∈fs,f<b)->go mv r fs<n
 | [],r,hr,_=>hr
 | f::fs,r,hr,hf=>tD h fs _ (h.at hr (hf f AZ)) λg hg=>hf g (AV _ hg)
theorem U4(mv:List (List Nat))(r:Nat)(xs:List Nat)(f:Nat):go mv r (xs++[f])=(mv.getD (go mv r xs) []).getD f 0:=by simp[go,List.foldl_append]
def RU(K:AD):Sp:=λvs H Q _=>∃(ma fa:Addr) (ps:List Addr) (b n rm:Nat) (mv:List (List Nat)) (fs:List Nat),vs=[.ref ma,.int rm,.ref fa]/\H ma=some (.tup (ps.map V.ref))/\bY H ps (mv.map aD)/\Moves n b mv/\
 rm<n/\bz K H fa ((aD fs).map V.int)/\(∀f∈fs,f<b)/\Q (.int (go mv rm fs:Nat)) H
theorem jC:aO ["moves","room","figures","figure"] ["moves","room","figures"] (ah eQ):=⟨rfl,rfl,rfl,by decide+kernel,rfl,by decide+kernel,by decide+kernel⟩
theorem wX{a:bR}(T:Txt K mg a):aR P w K mg base bj 1 a.iy a.jt ["moves","room","figures"] (RU K):=by
 refine T.yn.ok jC (λvs H Q E h=>?_) (λcdv A outer s H vs Q E hr h=>?_)
 ·obtain⟨ma,fa,ps,b,n,rm,mv,fs,rfl,_⟩:=h
  rfl
 ·obtain⟨ma,fa,ps,b,n,rm,mv,fs,rfl,e3,tp,R,hrm,hF,hf,k⟩:=h
  refine⟨_,(ai (dg A0 rfl (cH (pv 2)) (aH (i:=3) jC.nd rfl (Ad rfl))
   (av (ay (i:=1) jC.nd rfl (Ad rfl) (aB (ax K) (aB (ax K) (pv 0) (pv 1) (λ_ _=>rfl)) (pv 3) (λ_ _=>rfl)))))
  (av (aQ (pv 1)))),?_⟩
  have lp:ps.length=n:=by rw[AX tp,AB,R.len]
  refine⟨_,rfl,fa,rfl,⟨_,hF⟩,iK (xs:=(aD fs).map V.int) (λi σ H'=>∃v3:Option V,σ=[some (.ref ma),some (.int (go mv rm (fs.take i):Nat)),some (.ref fa),v3]/\H'=H)
   ⟨none,rfl,rfl⟩ (λi σ H' _ ⟨_,_,e⟩=>e▸hF) ?_ ?_⟩
  ·rintro i x σ H' hx ⟨v3,rfl,rfl⟩
   obtain⟨f,rfl,ef⟩:=uh hx
   have hfb:=hf f (AL ef)
   have hg:=tD R (fs.take i) rm hrm λz hz=>hf z (CH hz)
   have hp:=item_at 0 (show go mv rm (fs.take i)<ps.length by omega)
   obtain⟨l',hl',el⟩:=tp.get hp
   rw[AW,item_at [] (show go mv rm (fs.take i)<mv.length by rw[R.len];exact hg)] at hl'
   have:=AS hl'
   subst this
   have lb:=(R.lead _ (AL (item_at [] (show go mv rm (fs.take i)<mv.length by rw[R.len];exact hg)))).1
   refine⟨_,rfl,_,rfl,ma,_,_,_,rfl,rfl,.of e3,au (v:=.ref (ps.getD (go mv rm (fs.take i)) 0)) (by rw[AW,hp];rfl),_,rfl,_,_,_,_,rfl,rfl,.of el,au (cU (by rw[lb];exact hfb)),some (.int (f:Int)),?_,rfl⟩
   rw[take_snoc ef,U4]
   rfl
  ·rintro σ H' ⟨v3,rfl,rfl⟩
   rw[AB,bL,Ax]
   exact⟨_,rfl,k⟩
def jD(H:Hp)(r:Addr)(sg:List Nat)(mv:List (List Nat)):Prop:=∃(sa ma:Addr) (ps:List Addr),H r=some (.tup [.ref sa,.ref ma])/\H sa=some (.tup ((aD sg).map V.int))/\H ma=some (.tup (ps.map V.ref))/\bY H ps (mv.map aD)
theorem jD.keep{H H':Hp}{r:Addr}{sg:List Nat}{mv:List (List Nat)}(h:jD H r sg mv)(k:aW H H'):jD H' r sg mv:=by
 obtain⟨sa,ma,ps,h1,h2,h3,h4⟩:=h
 exact⟨sa,ma,ps,k _ _ h1,k _ _ h2,k _ _ h3,h4.keep k⟩
def onRow(b:Nat)(mv:List (List Nat))(r c s:Nat):List Nat:=[stp mv r ((c+s) % b),(c+s) / b]
def Jl:Sp:=λvs H Q _=>∃(b n r c s:Nat) (ra pa:Addr) (sg:List Nat) (mv:List (List Nat)),vs=[.int b,.ref ra,.ref pa,.int s]/\2<=b/\b<=4/\jD H ra sg mv/\Moves n b mv/\r<n/\H pa=some (.tup [.int (r:Nat),.int (c:Nat)])/\∀(p:Addr) (H':Hp),Same H H'->H' p=some (.tup ((aD (onRow b mv r c s)).map V.int))->Q (.ref p) H'
theorem ox:aO ["base","row","pair","total","carried"] ["base","row","pair","total"] (ah eV):=⟨rfl,rfl,rfl,by decide+kernel,rfl,by decide+kernel,by decide+kernel⟩
theorem wY{a:bR}(T:Txt K mg a):aR P w K mg base bj 1 a.fX a.gR ["base","row","pair","total"] Jl:=by
 refine T.yM.ok ox (λvs H Q E h=>?_) (λcdv A outer s H vs Q E hr h=>?_)
 ·obtain⟨b,n,r,c,s,ra,pa,sg,mv,rfl,_⟩:=h
  rfl
 ·obtain⟨b,n,r,c,tot,ra,pa,sg,mv,rfl,hb2,hb4,⟨sa,ma,ps,e1,e2,e3,tp⟩,cB,hr',ep,k⟩:=h
  refine⟨_,(ai (ay (i:=4) ox.nd rfl (Ad rfl) (aV dX (aB (ax K) (pv 2) aj (λ_ _=>rfl)) (pv 3)))
  (av (aQ (bf (ae (aB (ax K) (aB (ax K) (aB (ax K) (pv 1) aj (λ_ _=>rfl)) (aB (ax K) (pv 2) aj (λ_ _=>rfl)) (λ_ _=>rfl)) (aV dQ (pv 4) (pv 0)) (λ_ _=>rfl)) (ae (aV iN (pv 4) (pv 0)) ag)))))),?_⟩
  have lg:((b:Nat):Int).natAbs.log2<9000:=by
   rw[DC]
   exact A7 (Fp b) (by omega)
  refine⟨_,rfl,pa,_,_,.int (c:Nat),rfl,rfl,.of ep,au (j:=1) rfl,_,rfl,_,_,rfl,rfl,?_⟩
  have ec:((c:Nat):Int)+((tot:Nat):Int)=((c+tot:Nat):Int):=by omega
  dsimp only[aJ]
  rw[ec]
  obtain⟨r1,r2,r3⟩:=cB.row tp hr'
  have hm:(c+tot) % b<b:=D4 _ (by omega)
  refine⟨_,rfl,ra,_,_,.ref ma,rfl,rfl,.of e1,au (j:=1) rfl,_,rfl,pa,_,_,.int (r:Nat),rfl,rfl,.of ep,au (j:=0) rfl,ma,_,_,.ref (ps.getD r 0),rfl,rfl,.of e3,au (by rw[AW,r1];rfl),_,rfl,_,rfl,_,_,rfl,rfl,by show(0:Int)<_;omega,ps.getD r 0,_,_,.int (stp mv r ((c+tot) % b):Nat),rfl,?_,.of r2,au (j:=(c+tot) % b) (cU (by rw[r3];exact hm)),_,rfl,_,rfl,_,_,rfl,rfl,⟨by omega,lg⟩,by show 2<=sizeLine;decide,λp hp=>?_⟩
  ·show V.int (((c+tot:Nat):Int) % (b:Int))=V.int (((c+tot) % b:Nat):Int)
   rw[Dd]
  ·refine k p _ (Same.new hp) ?_
   rw[af]
   show some (HO.tup [V.int (stp mv r ((c+tot) % b):Nat),V.int (((c+tot:Nat):Int) / (b:Int))])=some (HO.tup [V.int ((stp mv r ((c+tot) % b):Nat):Int),V.int (((c+tot) / b:Nat):Int)])
   rw[C7]
def rn(b:Nat)(sg:List Nat)(mv:List (List Nat))(r c:Nat):Nat:=sg.getD (run mv r ((eG b c).map EX)) 0
def tE:Sp:=λvs H Q _=>∃(b n r c:Nat) (ra pa:Addr) (sg:List Nat) (mv:List (List Nat)),vs=[.int b,.ref ra,.ref pa]/\2<=b/\b<=4/\jD H ra sg mv/\sg.length=n/\Moves n b mv/\r<n/\c<2 ^ 20000/\H pa=some (.tup [.int (r:Nat),.int (c:Nat)])/\∀H',Same H H'->Q (.int (rn b sg mv r c:Nat)) H'
theorem Kn{b:Nat}(hb:2<=b)(c:Nat):aD ((eG b c).map EX)=eG b c:=by
 unfold aD
 rw[EG]
 refine(Dm λd hd=>?_).trans (List.map_id _)
 exact Dk (IZ hb c d hd).1
theorem rA{b:Nat}(hb:2<=b)(c:Nat):∀f∈(eG b c).map EX,f<b:=λf hf=>by
 obtain⟨d,hd,rfl⟩:=A1.mp hf
 have:=IZ hb c d hd
 omega
theorem zv(mv:List (List Nat)):∀(fs:List Nat) (r:Nat),go mv r fs=run mv r fs
 | [],_=>rfl
 | f::fs,r=>zv mv fs _
theorem zx:aO ["base","row","pair"] ["base","row","pair"] (ah fI):=⟨rfl,rfl,rfl,by decide+kernel,rfl,by decide+kernel,by decide+kernel⟩
theorem zy{a:bR}(T:Txt K mg a):aR P w K mg base bj 2 a.gC a.iB ["base","row","pair"] tE:=by
 have zA:=wW (P:=P) (w:=w) (base:=base) T
 have zB:=wX (P:=P) (w:=w) (base:=base) T
 refine T.Hk.ok zx (λvs H Q E h=>?_) (λcdv A outer s H vs Q E hr h=>?_)
 ·obtain⟨b,n,r,c,ra,pa,sg,mv,rfl,_⟩:=h
  rfl
 ·obtain⟨b,n,r,c,ra,pa,sg,mv,rfl,hb2,hb4,⟨sa,ma,ps,e1,e2,e3,tp⟩,ls,cB,hr',hc,ep,k⟩:=h
  have wZ:aP 1 _:=hr
  have w_:aP 1 _:=hr
  refine⟨_,(av (aQ (aB (ax K) (aB (ax K) (pv 1) aj (λ_ _=>rfl)) (aA zB w_ rfl T.yo T.yp T.yq .nil aK (ae (aB (ax K) (pv 1) aj (λ_ _=>rfl)) (ae (aB (ax K) (pv 2) aj (λ_ _=>rfl)) (ae (aA zA wZ rfl T.yk T.yl T.ym .nil aK (ae (pv 0) (ae (aB (ax K) (pv 2) aj (λ_ _=>rfl)) ag))) ag)))) (λ_ _=>rfl)))),?_⟩
  have hg:=tD cB ((eG b c).map EX) r hr' (rA hb2 c)
  refine⟨_,rfl,ra,_,_,.ref sa,rfl,rfl,.of e1,au (j:=0) rfl,_,rfl,ra,_,_,.ref ma,rfl,rfl,.of e1,au (j:=1) rfl,_,rfl,pa,_,_,.int (r:Nat),rfl,rfl,.of ep,au (j:=0) rfl,_,rfl,_,rfl,pa,_,_,.int (c:Nat),rfl,rfl,.of ep,au (j:=1) rfl,b,c,rfl,hb2,by omega,hc,λD H1 hD s1 d1=>?_⟩
  rw[<-Kn hb2 c] at d1
  refine⟨ma,D,ps,b,n,r,mv,_,rfl,s1 _ _ e3,tp.keep s1.kt,cB,hr',.of d1,rA hb2 c,?_⟩
  refine⟨sa,_,_,.int (rn b sg mv r c:Nat),rfl,rfl,.of (s1 _ _ e2),au ?_,k H1 s1⟩
  unfold rn
  rw[<-zv]
  exact cU (by rw[ls];exact hg)
def P8:List (Pos×Str):=[(⟨116,13,116,75⟩,(("sign_growth":Str)++".<locals>.")++"<lambda>"),(⟨117,13,117,65⟩,(("sign_growth":Str)++".<locals>.")++"<lambda>")]
def U5:List (Pos×Str):=[(⟨242,4,244,96⟩,(("_law_due":Str)++".<locals>.")++"_law_onward")]
structure TB (a:bR)(H:Hp):Prop where
 si:Tab H a.bT P8
 du:Tab H a.fJ U5
def KX(a:bR)(H H':Hp):Prop:=∀b o,H b=some o->(∀qs,o≠.gw qs)->H' b=some o
theorem KX.trans{a:bR}{H H1 H2:Hp}(x:KX a H H1)(y:KX a H1 H2):KX a H H2:=λb o e n=>y b o (x b o e n) n
theorem KX.same{a:bR}{H H':Hp}(s:Same H H'):KX a H H':=λb o e _=>s b o e
theorem KX.kt{a:bR}{H H':Hp}(x:KX a H H'):aW H H':=λb xs e=>x b _ e λ_ z=>nomatch z
theorem KX.kb{a:bR}{H H':Hp}{T:Addr}{L:List (Pos×Str)}(t:Tab H T L)(k:KB T H H'):KX a H H':=λb o e n=>k b o e λz=>by
 obtain⟨qs,h,_⟩:=t
 rw[z,h] at e
 exact n qs (AS e).symm
theorem _root_.L2.Tab.Yx{H H':Hp}{T d:Addr}{L L':List (Pos×Str)}(x:Tab H T L)(y:Tab H d L')(s:KB d H H')(hd:T≠d):Tab H' T L:=by
 obtain⟨ps,h1,h2,h3⟩:=x
 obtain⟨qs,g,_⟩:=y
 refine⟨ps,s _ _ h1 hd,h2,λp hp=>?_⟩
 rcases h3 p hp with z | ⟨c,z1,z2⟩
 ·exact .inl z
 ·exact .inr ⟨c,z1,s _ _ z2 λe=>by rw[e,g] at z2;cases z2⟩
theorem TB.same{a:bR}{H H':Hp}(t:TB a H)(s:Same H H'):TB a H':=⟨t.si.same s,t.du.same s⟩
section
variable{K:AD}{mg:Str->Option Value}{a:bR}{H H':Hp}
theorem TB.Yz(T:Txt K mg a)(t:TB a H)(k:KB a.bT H H')(y:Tab H' a.bT P8):TB a H':=⟨y,t.du.Yx t.si k T.tne24.symm⟩
theorem TB.kdu(T:Txt K mg a)(t:TB a H)(k:KB a.fJ H H')(y:Tab H' a.fJ U5):TB a H':=⟨t.si.Yx t.du k T.tne24,y⟩
end
theorem apart2{p q:Pos×Str}(h:p.1.line≠q.1.line):Apart [p,q]:=λa ha b hb e _=>by
 rcases Ac.mp ha with z | z<;>rcases Ac.mp hb with y | y
 ·rw[z,y]
 ·rw[z,AR.mp y] at e;exact absurd e h
 ·rw[y,AR.mp z] at e;exact absurd e.symm h
 ·rw[AR.mp z,AR.mp y]
def Jm(b:Nat)(mv:List (List Nat))(su:List Int)(p:List Nat)(L:Nat):List Nat:=onRow b mv (p.getD 0 0) (p.getD 1 0) (su.getD L 0).toNat
def kq(b:Nat)(sg:List Nat)(mv:List (List Nat))(sn:Int)(p:List Nat):Bool:=decide (((rn b sg mv (p.getD 0 0) (p.getD 1 0):Nat):Int)=sn)
def pG(n B:Nat)(p:List Nat):Prop:=∃r c,p=[r,c]/\r<n/\c<=B
structure gn (ra sa sy:Addr)(sg:List Nat)(mv:List (List Nat))(su:List Int)(ws:List V)(H:Hp):Prop where
 il:jD H ra sg mv
 s:H sa=some (.lst (su.map V.int))
 y:H sy=some (.tup ws)
theorem gn.keep{ra sa sy:Addr}{sg:List Nat}{mv:List (List Nat)}{su:List Int}{ws:List V}{H H':Hp}(e:gn ra sa sy sg mv su ws H)(kt:aW H H')(kl:∀b xs,H b=some (.lst xs)->H' b=some (.lst xs)):gn ra sa sy sg mv su ws H':=⟨e.il.keep kt,kl _ _ e.s,kt _ _ e.y⟩
theorem gn.kx{a:bR}{ra sa sy:Addr}{sg:List Nat}{mv:List (List Nat)}{su:List Int}{ws:List V}{H H':Hp}(e:gn ra sa sy sg mv su ws H)(k:KX a H H'):gn ra sa sy sg mv su ws H':=e.keep k.kt λb xs z=>k _ _ z λ_ y=>nomatch y
theorem gn.same{ra sa sy:Addr}{sg:List Nat}{mv:List (List Nat)}{su:List Int}{ws:List V}{H H':Hp}(e:gn ra sa sy sg mv su ws H)(s:Same H H'):gn ra sa sy sg mv su ws H':=e.keep s.kt λb xs z=>s _ _ z
theorem gn.dk{ra sa sy:Addr}{sg:List Nat}{mv:List (List Nat)}{su:List Int}{ws:List V}{H:Hp}{D:List Addr}(hD:∀a∈D,∃φ,H a=some (.ext φ))(e:gn ra sa sy sg mv su ws H):gn ra sa sy sg mv su ws (L2.dk D H):=
 e.keep (λb xs z=>m7 hD z (λ_ y=>nomatch y)) λb xs z=>m7 hD z (λ_ y=>nomatch y)
theorem zC{b n B:Nat}(hb:2<=b){mv:List (List Nat)}(m:Moves n b mv){su:List Int}(hs:∀x∈su,x<=(B:Int)){p:List Nat}(h:pG n B p)(L:Nat):pG n B (Jm b mv su p L):=by
 obtain⟨r,c,rfl,hr,hc⟩:=h
 refine⟨_,_,rfl,m.stp hr (D4 _ (by omega)),?_⟩
 have hL:(su.getD L 0).toNat<=B:=by
  rw[BV]
  cases e:su[L]? with
  | none=>exact BG _
  | some x=>have:=hs x (AL e);show x.toNat<=B;omega
 show(c+(su.getD L 0).toNat) / b<=B
 have:(c+(su.getD L 0).toNat) / b<=(c+(su.getD L 0).toNat) / 2:=Nat.div_le_div_left hb (by decide)
 omega
def U6(P:Ak)(w:World)(K:AD)(mg:Str->Option Value)(base:Heap)(a:bR):Sp:=λvs H Q _=>∃(b n B:Nat) (wo Dw nm sy ra ta:Addr) (kvs:List (Key×V)) (x:Str) (w0:V) (t:Term) (sn:Int) (sg:List Nat) (mv:List (List Nat)) (ss:List Str),vs=[.ref wo,.ref nm,.ref sy]/\2<=b/\b<=4/\H wo=some (.tup [.int b,.ref Dw])/\Rd H Dw (.dK kvs)/\bt kvs (Av x)=some (.ref ra)/\jD H ra sg mv/\sg.length=n/\0<n/\Moves n b mv/\H sy=some (.tup [w0,.str x,.ref ta,.int sn])/\f_ H ta t/\t.parts.length<=100/\(∃c:Nat,t.num=(c:Int)/\c<=B)/\(∀z∈cA b (ss.map t.at),0<=z/\z<=(B:Int))/\B<2 ^ 20000/\H nm=some (.tup (ss.map V.str))/\ss.length<=4/\TB a H/\
 ∀(g z0 f1 f2 sa:Addr) (D:List Addr) (H':Hp),KX a H H'->TB a H'->(∀a∈D,∃φ,H' a=some (.ext φ))->gn ra sa sy sg mv (cA b (ss.map t.at)) [w0,.str x,.ref ta,.int sn] H'->H' z0=some (.tup [.int 0,.int t.num])->H' g=some (.tup [.ref z0,.ref f1,.ref f2])->
  iR P w K mg base H' D 3 f1 2 (ui (qM.toS P w) (b ^ ss.length) (Jm b mv (cA b (ss.map t.at))) (pG n B) (gn ra sa sy sg mv (cA b (ss.map t.at)) [w0,.str x,.ref ta,.int sn]))->
  iR P w K mg base H' D 3 f2 1 (Ke (qM.toS P w) (kq b sg mv sn) (pG n B) (gn ra sa sy sg mv (cA b (ss.map t.at)) [w0,.str x,.ref ta,.int sn]))->Q (.ref g) H'
theorem dE:aO ["world","names","saying","base","row","sums","onward","is_yes"] ["world","names","saying"] (ah bB):=⟨rfl,rfl,rfl,by decide+kernel,rfl,by decide+kernel,by decide+kernel⟩
set_option maxHeartbeats 16000000 in
theorem ur{a:bR}(T:Txt K mg a)(hB:fq mg base):aR P w K mg base bj 3 a.cw a.iY ["world","names","saying"] (U6 P w K mg base a):=by
 have xa:=uq (P:=P) (w:=w) (base:=base) T
 have Ko:=Hw (P:=P) (w:=w) (base:=base) T
 refine T.wC.okR dE (λvs H Q E h=>?_) (λAr outer sh H vs Q E inj hr h=>?_)
 ·obtain⟨b,n,B,wo,Dw,nm,sy,ra,ta,kvs,x,w0,t,sn,sg,mv,ss,rfl,_⟩:=h
  rfl
 ·obtain⟨b,n,B,wo,Dw,nm,sy,ra,ta,kvs,x,w0,t,sn,sg,mv,ss,rfl,hb2,hb4,ew,eDw,ex,OW,P9,n0,cB,es,et,lt,hnum,oy,hB2,UC,M0,tb,q⟩:=h
  have uv:aP 2 _:=hr
  have Hx:aP 1 _:=hr.mono (by decide)
  refine⟨_,mn (ay (i:=3) dE.nd rfl (DK rfl) (aB (ax K) (pv 0) aj (λ_ _=>rfl)))
   (mn (ay (i:=4) dE.nd rfl (DK rfl) (dr (ck hr) (aB (ax K) (pv 0) aj (λ_ _=>rfl)) (aB (ax K) (pv 2) aj (λ_ _=>rfl)) (λ_ _=>rfl)))
   (mn (ay (i:=5) dE.nd rfl (DK rfl) (aA xa uv rfl T.wj T.wk T.wm .nil aK (ae (pv 3) (ae (aA Ko Hx rfl T.J9 T.J' T.Ka .nil aK (ae (aB (ax K) (pv 2) aj (λ_ _=>rfl)) (ae (pv 1) ag))) ag))))
   (mn (ay (i:=6) dE.nd rfl (Ad rfl) (IJ (T:=a.bT) (L:=P8) rfl T.oq hB rfl rfl (AZ) (apart2 (by decide)) rfl))
   (mn (ay (i:=7) dE.nd rfl (Ad rfl) (IJ (T:=a.bT) (L:=P8) rfl T.oq hB rfl rfl (AV _ AZ) (apart2 (by decide)) rfl))
   (TX (bf (ae (bf (ae aj (ae (aB (ax K) (aB (ax K) (pv 2) aj (λ_ _=>rfl)) aj (λ_ _=>rfl)) ag))) (ae (pv 6) (ae (pv 7) ag))))))))),?_⟩
  refine⟨_,rfl,wo,_,_,.int (b:Nat),rfl,rfl,.of ew,au (j:=0) rfl,?_⟩
  dsimp only[aJ]
  refine⟨_,rfl,wo,_,_,.ref Dw,rfl,rfl,.of ew,au (j:=1) rfl,_,rfl,sy,_,_,.str x,rfl,rfl,.of es,au (j:=1) rfl,Dw,.ref ra,rfl,.inl ⟨kvs,Av x,eDw,rfl,ex.symm⟩,?_⟩
  dsimp only[aJ]
  refine⟨_,rfl,_,rfl,sy,_,_,.ref ta,rfl,rfl,.of es,au (j:=2) rfl,_,rfl,ta,nm,t,ss,rfl,et,lt,UC,by omega,λD0 H0 sJ s0 d0=>?_⟩
  refine⟨b,D0,_,rfl,hb4,d0,by rw[AB];exact M0,λsa H1 hsa s1' d1=>?_⟩
  have s1:=s0.trans s1'
  rw[show((lets b (ss.map t.at).length).map λl=>dot l (ss.map t.at))=cA b (ss.map t.at) from rfl] at d1
  have Jn:(cA b (ss.map t.at)).length=b ^ ss.length:=by rw[vS,AB]
  generalize cA b (ss.map t.at)=su at d1 q Jn oy
  have ev1:gn ra sa sy sg mv su [w0,.str x,.ref ta,.int sn] H1:=⟨OW.keep s1.kt,d1,s1 _ _ es⟩
  have kr:=tb.same s1
  obtain⟨tb',tps,ta1,_,_⟩:=et.keep s1.kt
  dsimp only[aJ]
  refine⟨kr.si,λf1 d1 ag' H3 hf1 ef1 ec1 ZW kb3=>?_⟩
  have k3:KX a H1 H3:=KX.kb kr.si kb3
  have zD:=kr.Yz T kb3 ZW
  dsimp only[aJ]
  refine⟨zD.si,λf2 d2 aha H5 hf2 ef2 ec2 ZX YA=>?_⟩
  have k35:KX a H3 H5:=KX.kb zD.si YA
  have M1:=zD.Yz T YA ZX
  have k15:=k3.trans k35
  dsimp only[aJ]
  refine⟨_,rfl,sy,_,_,.ref ta,rfl,rfl,.of (k15.kt _ _ ev1.y),au (j:=2) rfl,ta,_,_,.int t.num,rfl,rfl,.of (k15.kt _ _ ta1),au (j:=0) rfl,by show 2<=sizeLine;decide,λz0 hz0=>⟨_,rfl,_,rfl,by show 3<=sizeLine;decide,λg hg=>?_⟩⟩
  have sz:=Same.new (o:=.tup [.int 0,.int t.num]) hz0
  have zE:=Same.new (o:=.tup [.ref z0,.ref f1,.ref f2]) hg
  obtain⟨c1,h1⟩:∃c,(Dn "sign_growth" (ah bB) sh.heap.objs.size a.cw (.ref a.de)).cells.lookup ("base":Str)=some c:=fP rfl
  obtain⟨c2,h2⟩:∃c,(Dn "sign_growth" (ah bB) sh.heap.objs.size a.cw (.ref a.de)).cells.lookup ("row":Str)=some c:=fP rfl
  obtain⟨c3,h3⟩:∃c,(Dn "sign_growth" (ah bB) sh.heap.objs.size a.cw (.ref a.de)).cells.lookup ("sums":Str)=some c:=fP rfl
  obtain⟨c4,h4⟩:∃c,(Dn "sign_growth" (ah bB) sh.heap.objs.size a.cw (.ref a.de)).cells.lookup ("saying":Str)=some c:=fP rfl
  let l:List (Nat×Str×Addr×V):=[(3,"base",c1,.int (b:Nat)),(4,"row",c2,.ref ra),(5,"sums",c3,.ref sa),(2,"saying",c4,.ref sy)]
  have C:x9 (j0 bj P w K mg base ["world","names","saying","base","row","sums","onward","is_yes"] "sign_growth" (ah bB) a.cw (.ref a.de) Ar outer sh H E) [some (.ref wo),some (.ref nm),some (.ref sy),some (.int (b:Nat)),some (.ref ra),some (.ref sa),some (.ref f1),some (.ref f2)] l:=
   ⟨Az.mpr ⟨⟨rfl,rfl,rfl,h1⟩,Az.mpr ⟨⟨rfl,rfl,rfl,h2⟩,Az.mpr ⟨⟨rfl,rfl,rfl,h3⟩,Az.mpr ⟨⟨rfl,rfl,rfl,h4⟩,λ_ h=>nomatch h⟩⟩⟩⟩,show(["base","row","sums","saying"]:List Str).Nodup by decide+kernel⟩
  refine⟨oU l,C.cells,λfr=>?_⟩
  have sm:=oT fr
  have g1:=C.got inj (upd (upd H5 z0 (.tup [.int 0,.int t.num])) g (.tup [.ref z0,.ref f1,.ref f2])) (q:=(3,"base",c1,.int (b:Nat))) (by simp[l])
  have g2:=C.got inj (upd (upd H5 z0 (.tup [.int 0,.int t.num])) g (.tup [.ref z0,.ref f1,.ref f2])) (q:=(4,"row",c2,.ref ra)) (by simp[l])
  have g3:=C.got inj (upd (upd H5 z0 (.tup [.int 0,.int t.num])) g (.tup [.ref z0,.ref f1,.ref f2])) (q:=(5,"sums",c3,.ref sa)) (by simp[l])
  have g4:=C.got inj (upd (upd H5 z0 (.tup [.int 0,.int t.num])) g (.tup [.ref z0,.ref f1,.ref f2])) (q:=(2,"saying",c4,.ref sy)) (by simp[l])
  have s6:=(sz.trans zE).trans sm
  have k36:=k35.trans (KX.same (a:=a) s6)
  have U7:=k36 _ _ ef1 λ_ y=>nomatch y
  have U8:=k36 _ _ ec1 λ_ y=>nomatch y
  have U9:=s6 _ _ ef2
  have U':=s6 _ _ ec2
  have ev6:=ev1.kx (k3.trans k36)
  have hD6:∀x∈[f1,d1,f2,d2,c1,c2,c3,c4],∃φ,kd (oU l) (upd (upd H5 z0 (.tup [.int 0,.int t.num])) g (.tup [.ref z0,.ref f1,.ref f2])) x=some (.ext φ):=λx hx=>by
   simp only[Ac,CD,or_false] at hx
   rcases hx with z | z | z | z | z | z | z | z
   ·rw[z];exact⟨_,U7⟩
   ·rw[z];exact⟨_,U8⟩
   ·rw[z];exact⟨_,U9⟩
   ·rw[z];exact⟨_,U'⟩
   ·rw[z];exact⟨_,g1⟩
   ·rw[z];exact⟨_,g2⟩
   ·rw[z];exact⟨_,g3⟩
   ·rw[z];exact⟨_,g4⟩
  refine q g z0 f1 f2 sa [f1,d1,f2,d2,c1,c2,c3,c4] _ ((KX.same s1).trans (k3.trans k36)) (M1.same s6) hD6 ev6 ((zE.trans sm) _ _ af) (sm _ _ af) ?_ ?_
  ·refine iR.lam U7 (by simp) U8 (by simp) (ps:=["pair","letter"]) (aI:=["base","row","sums"]) (fvs:=[.int (b:Nat),.ref ra,.ref sa]) (gX.mk' rfl rfl rfl (by decide+kernel) (by decide+kernel) (by decide+kernel) (by decide+kernel) (by decide+kernel)) inj (Az.mpr ⟨⟨rfl,AL (i:=2) rfl⟩,Az.mpr ⟨⟨rfl,AL (i:=1) rfl⟩,Az.mpr ⟨⟨rfl,AL (i:=0) rfl⟩,λ_ h=>nomatch h⟩⟩⟩)
    (.cons ⟨c1,rfl,h1,by simp,g1⟩ (.cons ⟨c2,rfl,h2,by simp,g2⟩ (.cons ⟨c3,rfl,h3,by simp,g3⟩ .nil))) (λus hl=>match us,hl with | [_,_],_=>rfl) (λvs H Q E h=>?_) (λbase' W A outer s H vs Q E hr h=>?_)
   ·obtain⟨x,v,c,rfl,_⟩:=h
    rfl
   ·obtain⟨S,vv,c,rfl,⟨pp,rfl,ep⟩,⟨r,cc,rfl,hr',hcc⟩,hc,ev,kk⟩:=h
    have zF:aR P w K mg base' bj 1 a.fX a.gR ["base","row","pair","total"] Jl:=wY T
    have hr1:aP 1 _:=hr.mono (by decide)
    refine⟨_,aA zF hr1 (by rfl) T.yN T.yO T.yP .nil aK (ae (pv 2) (ae (pv 3) (ae (pv 0) (ae (aB (cP K) (pv 4) (pv 1) (λ_ _=>rfl)) ag)))),?_⟩
    have M3:su[c]? =some (su.getD c 0):=item_at 0 (by rw[Jn];exact hc)
    have hn0:=(oy _ (AL M3)).1
    refine⟨_,rfl,_,rfl,_,rfl,_,rfl,_,rfl,sa,_,_,.int (su.getD c 0),rfl,rfl,.of ev.s,au (by rw[AW,M3];rfl),b,n,r,cc,(su.getD c 0).toNat,ra,pp,sg,mv,?_,hb2,hb4,ev.il,cB,hr',ep,λp H' s' e'=>?_⟩
    ·rw[Dk hn0];rfl
    ·exact kk _ H' s' ⟨p,rfl,by rw[show((Jm b mv su [r,cc] c).map λ(z:Nat)=>V.int (z:Int))=(aD (onRow b mv r cc (su.getD c 0).toNat)).map V.int by unfold aD;rw[EG];rfl];exact e'⟩
  ·refine iR.lam U9 (by simp) U' (by simp) (ps:=["pair"]) (aI:=["base","row","saying"]) (fvs:=[.int (b:Nat),.ref ra,.ref sy]) (gX.mk' rfl rfl rfl (by decide+kernel) (by decide+kernel) (by decide+kernel) (by decide+kernel) (by decide+kernel)) inj (Az.mpr ⟨⟨rfl,AL (i:=2) rfl⟩,Az.mpr ⟨⟨rfl,AL (i:=1) rfl⟩,Az.mpr ⟨⟨rfl,AL (i:=0) rfl⟩,λ_ h=>nomatch h⟩⟩⟩)
    (.cons ⟨c1,rfl,h1,by simp,g1⟩ (.cons ⟨c2,rfl,h2,by simp,g2⟩ (.cons ⟨c4,rfl,h4,by simp,g4⟩ .nil))) (λus hl=>match us,hl with | [_],_=>rfl) (λvs H Q E h=>?_) (λbase' W A outer s H vs Q E hr h=>?_)
   ·obtain⟨x,v,rfl,_⟩:=h
    rfl
   ·obtain⟨S,vv,rfl,⟨pp,rfl,ep⟩,⟨r,cc,rfl,hr',hcc⟩,ev,kk⟩:=h
    have Hy:aR P w K mg base' bj 2 a.gC a.iB ["base","row","pair"] tE:=zy T
    have hr2:aP 2 _:=hr
    refine⟨_,jQ ij (aA Hy hr2 (by rfl) T.Hl T.Hm T.Hn .nil aK (ae (pv 1) (ae (pv 2) (ae (pv 0) ag)))) (aB (ax K) (pv 3) aj (λ_ _=>rfl)) (bD _),?_⟩
    refine⟨_,rfl,_,rfl,_,rfl,b,n,r,cc,ra,pp,sg,mv,rfl,hb2,hb4,ev.il,P9,cB,hr',A7 hcc hB2,ep,λH' s'=>⟨_,rfl,sy,_,_,.int sn,rfl,rfl,.of (s' _ _ ev.y),au (j:=3) rfl,rfl,?_⟩⟩
    rw[show decide (V.int ((rn b sg mv r cc:Nat):Int)=V.int sn)=kq b sg mv sn [r,cc] from decide_eq_decide.mpr ⟨λe=>V.int.inj e,λe=>congrArg V.int e⟩]
    exact kk H' s'
structure zG (b n B:Nat)(wo Dw sy ra ta:Addr)(kvs:List (Key×V))(x:Str)(t:Term)(sn:Int)(sg:List Nat)(mv:List (List Nat))(H:Hp):Prop where
 wo:H wo=some (.tup [.int b,.ref Dw])
 dw:Rd H Dw (.dK kvs)
 at':bt kvs (Av x)=some (.ref ra)
 row:jD H ra sg mv
 len:sg.length=n
 pos:0<n
 cB:Moves n b mv
 sy:H sy=some (.tup [.str "sign",.str x,.ref ta,.int sn])
 tm:f_ H ta t
 few:t.parts.length<=100
 num:∃c:Nat,t.num=(c:Int)/\c<=B
 big:B<2 ^ 20000
theorem zG.kx{a:bR}{b n B:Nat}{wo Dw sy ra ta:Addr}{kvs:List (Key×V)}{x:Str}{t:Term}{sn:Int}{sg:List Nat}{mv:List (List Nat)}{H H':Hp}(h:zG b n B wo Dw sy ra ta kvs x t sn sg mv H)(k:KX a H H'):zG b n B wo Dw sy ra ta kvs x t sn sg mv H':=
 ⟨k.kt _ _ h.wo,h.dw.elim (λe=>.inl (k _ _ e λ_ y=>nomatch y)) (λ⟨o,e⟩=>.inr ⟨o,k _ _ e λ_ y=>nomatch y⟩),h.at',h.row.keep k.kt,h.len,h.pos,h.cB,k.kt _ _ h.sy,h.tm.keep k.kt,h.few,h.num,h.big⟩
theorem f_.dat{K:AD}{H:Hp}{a:Addr}{t:Term}(h:f_ H a t):aq K H (.ref a) t.dt:=by
 obtain⟨b,ps,h1,h2,h3⟩:=h
 refine pW (.of h1) (cX tX (cX (pW (.of h2) ?_) fR))
 clear h1 h2
 generalize t.parts=l at h3
 induction h3 with
 | nil=>exact fR
 | cons h _ ih=>exact cX (pW (.of h) (cX tY (cX tX fR))) ih
abbrev tF (b:Nat)(mv:List (List Nat))(t:Term)(ks:List Str):List Nat->Nat->List Nat:=Jm b mv (cA b (ks.map t.at))
def RV(P:Ak)(w:World)(K:AD)(mg:Str->Option Value)(base:Heap)(a:bR):Sp:=λvs H Q _=>∃(b n B:Nat) (wo Dw nm sy ra ta:Addr) (kvs:List (Key×V)) (x:Str) (t:Term) (sn:Int) (sg:List Nat) (mv:List (List Nat)) (ss:List Str),vs=[.ref wo,.ref nm,.ref sy]/\2<=b/\b<=4/\zG b n B wo Dw sy ra ta kvs x t sn sg mv H/\(∀z∈cA b (ss.map t.at),0<=z/\z<=(B:Int))/\H nm=some (.tup (ss.map V.str))/\ss.length<=4/\TB a H/\
 ∀(g z0 f1 f2 sa:Addr) (D:List Addr) (H':Hp),KX a H H'->TB a H'->(∀a∈D,∃φ,H' a=some (.ext φ))->gn ra sa sy sg mv (cA b (ss.map t.at)) [.str "sign",.str x,.ref ta,.int sn] H'->H' z0=some (.tup [.int 0,.int t.num])->H' g=some (.tup [.ref z0,.ref f1,.ref f2])->
  iR P w K mg base H' D 3 f1 2 (ui (qM.toS P w) (b ^ ss.length) (tF b mv t ss) (pG n B) (gn ra sa sy sg mv (cA b (ss.map t.at)) [.str "sign",.str x,.ref ta,.int sn]))->
  iR P w K mg base H' D 3 f2 1 (Ke (qM.toS P w) (kq b sg mv sn) (pG n B) (gn ra sa sy sg mv (cA b (ss.map t.at)) [.str "sign",.str x,.ref ta,.int sn]))->Q (.ref g) H'
theorem uw:aO ["base","names","saying","sums","first","onward"] ["base","names","saying"] (ah cu):=⟨rfl,rfl,rfl,by decide+kernel,rfl,by decide+kernel,by decide+kernel⟩
theorem ux:aO ["base","names","saying","sums","first","onward"] ["base","names","saying"] (ah cv):=⟨rfl,rfl,rfl,by decide+kernel,rfl,by decide+kernel,by decide+kernel⟩
theorem tG:aO ["world","names","saying","base","one","other","left","right","onward","is_yes"] ["world","names","saying"] (ah bZ):=⟨rfl,rfl,rfl,by decide+kernel,rfl,by decide+kernel,by decide+kernel⟩
theorem uy:aO ["world","names","saying"] ["world","names","saying"] (ah dR):=⟨rfl,rfl,rfl,by decide+kernel,rfl,by decide+kernel,by decide+kernel⟩
theorem uz{a:bR}(T:Txt K mg a)(hB:fq mg base):aR P w K mg base bj 4 a.gT a.iZ ["world","names","saying"] (RV P w K mg base a):=by
 have xb:=ur (P:=P) (w:=w) (base:=base) T hB
 have xc:aR P w K mg base bj 1 a.gP a.iW ["base","names","saying"] (λ_ _ _ _=>False):=T.wq.okR uw (λvs H Q E h=>h.elim) (λAr outer sh H vs Q E inj hr h=>h.elim)
 have xf:aR P w K mg base bj 1 a.gQ a.iX ["base","names","saying"] (λ_ _ _ _=>False):=T.wy.okR ux (λvs H Q E h=>h.elim) (λAr outer sh H vs Q E inj hr h=>h.elim)
 have uA:aR P w K mg base bj 1 a.gi a.iC ["world","names","saying"] (λ_ _ _ _=>False):=T.ub.okR tG (λvs H Q E h=>h.elim) (λAr outer sh H vs Q E inj hr h=>h.elim)
 refine T.wH.ok uy (λvs H Q E h=>?_) (λcdv A outer s H vs Q E hr h=>?_)
 ·obtain⟨b,n,B,wo,Dw,nm,sy,ra,ta,kvs,x,t,sn,sg,mv,ss,rfl,_⟩:=h
  rfl
 ·obtain⟨b,n,B,wo,Dw,nm,sy,ra,ta,kvs,x,t,sn,sg,mv,ss,rfl,hb2,hb4,S,oy,en,l4,tb,q⟩:=h
  have uB:aP 1 _:=hr.mono (by decide)
  have uC:aP 1 _:=hr.mono (by decide)
  have uD:aP 3 _:=hr
  have tH:aP 1 _:=hr.mono (by decide)
  refine⟨_,(ai (dN (bx ij (aB (ax K) (pv 2) aj (λ_ _=>rfl)) bH (bD _))
   (av (aQ (aA xc uB rfl T.wt T.wu T.wx .nil aK (ae (aB (ax K) (pv 0) aj (λ_ _=>rfl)) (ae (pv 1) (ae (pv 2) ag))))))
   cp)
  (ai (dN (bx ij (aB (ax K) (pv 2) aj (λ_ _=>rfl)) bH (bD _))
   (av (aQ (aA xf uC rfl T.wz T.wA T.wB .nil aK (ae (aB (ax K) (pv 0) aj (λ_ _=>rfl)) (ae (pv 1) (ae (pv 2) ag))))))
   cp)
  (ai (dN (bx ij (aB (ax K) (pv 2) aj (λ_ _=>rfl)) bH (bD _))
   (av (aQ (aA xb uD rfl T.wD T.wF T.wG .nil aK (ae (pv 0) (ae (pv 1) (ae (pv 2) ag))))))
   cp)
  (av (aQ (aA uA tH rfl T.uc T.ud T.uf .nil aK (ae (pv 0) (ae (pv 1) (ae (pv 2) ag))))))))),?_⟩
  refine⟨_,rfl,sy,_,_,.str "sign",rfl,rfl,.of S.sy,au (j:=0) rfl,rfl,_,rfl,?_⟩
  refine cW (λz=>absurd z (by decide)) (λ_=>?_)
  refine⟨_,rfl,sy,_,_,.str "sign",rfl,rfl,.of S.sy,au (j:=0) rfl,rfl,_,rfl,?_⟩
  refine cW (λz=>absurd z (by decide)) (λ_=>?_)
  refine⟨_,rfl,sy,_,_,.str "sign",rfl,rfl,.of S.sy,au (j:=0) rfl,rfl,_,rfl,?_⟩
  refine cW (λ_=>?_) (λz=>absurd (by decide) z)
  exact⟨_,rfl,_,rfl,_,rfl,b,n,B,wo,Dw,nm,sy,ra,ta,kvs,x,_,t,sn,sg,mv,ss,rfl,hb2,hb4,S.wo,S.dw,S.at',S.row,S.len,S.pos,S.cB,S.sy,S.tm,S.few,S.num,oy,S.big,en,l4,tb,q⟩
def rB(a:bR):Sp:=λvs H Q _=>∃(b n B most:Nat) (wo Dw sy ra ta:Addr) (kvs:List (Key×V)) (x:Str) (t:Term) (sn:Int) (sg:List Nat) (mv:List (List Nat)) (ss:List Str),vs=[.ref wo,.ref sy,.int most]/\2<=b/\b<=4/\zG b n B wo Dw sy ra ta kvs x t sn sg mv H/\(∀ks:List Str,ks.length<=4->∀z∈cA b (ks.map t.at),0<=z/\z<=(B:Int))/\fM ss t/\ss.length<=4/\most<=10000/\TB a H/\
 (∀(ks:List Str) (xs:List (List Nat)) (c:Nat) (H':Hp),KX a H H'->TB a H'->dM ks (.sign x t sn)->t.num=(c:Int)->xs.Nodup->(∀p∈xs,∃w,dJ (b ^ ks.length) w/\p=fz (tF b mv t ks) [0,c] w)->most<xs.length->Q .non H')/\
 ∀(ks:List Str) (p nm:Addr) (xs:List (List Nat)) (c:Nat) (mw:List (List Nat)) (H':Hp),KX a H H'->TB a H'->dM ks (.sign x t sn)->t.num=(c:Int)->sH H' p nm (xs.map (kq b sg mv sn)) mw->H' nm=some (.tup (ks.map V.str))->mw.length=xs.length->xs.length<=most->cn [0,c] (tF b mv t ks) (b ^ ks.length) xs mw->Q (.ref p) H'
theorem tI:aO ["world","saying","most","names"] ["world","saying","most"] (ah cK):=⟨rfl,rfl,rfl,by decide+kernel,rfl,by decide+kernel,by decide+kernel⟩
theorem Kp{a:bR}{pb:lQ}{pc:nH}(T:Txt K mg a)(hB:fq mg base)(U:ja K w.params mg pb)(Y:jO K w.params mg pc):aR P w K mg base bj 6 a.jj a.iD ["world","saying","most"] (rB a):=by
 have zH:aR P w K mg base bj 4 a.fW a.gM ["saying"] (MV K):=wV T U Y
 have xg:=uz (P:=P) (w:=w) (base:=base) T hB
 have zI:=wM (P:=P) (w:=w) (base:=base) T 3
 refine T.L0.ok tI (λvs H Q E h=>?_) (λAr outer s H vs Q E hr h=>?_)
 ·obtain⟨b,n,B,most,wo,Dw,sy,ra,ta,kvs,x,t,sn,sg,mv,ss,rfl,_⟩:=h
  rfl
 ·obtain⟨b,n,B,most,wo,Dw,sy,ra,ta,kvs,x,t,sn,sg,mv,ss,rfl,hb2,hb4,S,oy,ov,l4,hm,tb,q0,q⟩:=h
  have xh:aP 4 _:=hr.mono (by decide)
  have uE:aP 4 _:=hr.mono (by decide)
  have xi:aP 5 _:=hr
  refine⟨_,(ai (ay (i:=3) tI.nd rfl (Ad rfl) (aA zH xh rfl T.yJ T.yK T.yL .nil aK (ae (pv 1) ag)))
  (av (aQ (aA zI xi rfl T.yx T.yy T.yz .nil aK (ae (aB (ax K) (pv 0) aj (λ_ _=>rfl)) (ae (pv 3) (ae (aA xg uE rfl T.wI T.wJ T.wK .nil aK (ae (pv 0) (ae (pv 3) (ae (pv 1) ag)))) (ae (pv 2) ag)))))))),?_⟩
  have dat:aq K H (.ref sy) (az.sign x t sn).dt:=pW (.of S.sy) (cX tY (cX tY (cX S.tm.dat (cX tX fR))))
  obtain⟨c,hc,hcB⟩:=S.num
  refine⟨_,rfl,_,az.sign x t sn,ss,rfl,dat,BG _,ov,by omega,λnm ks H1 s1 en fr=>?_⟩
  have lk:ks.length<=4:=BB (fr.len ov) l4
  have S1:=S.kx (KX.same (a:=a) s1)
  dsimp only[aJ]
  refine⟨_,rfl,wo,_,_,.int (b:Nat),rfl,rfl,.of S1.wo,au (j:=0) rfl,_,rfl,_,rfl,_,rfl,_,rfl,b,n,B,wo,Dw,nm,sy,ra,ta,kvs,x,t,sn,sg,mv,ks,rfl,hb2,hb4,S1,oy ks lk,en,lk,tb.same s1,λg z0 f1 f2 sa D H2 k2 tb2 hD ev ez eg F1 F2=>?_⟩
  refine⟨_,rfl,b,most,nm,g,ks,List Nat,qM.toS P w,tF b mv t ks,kq b sg mv sn,pG n B,gn ra sa sy sg mv (cA b (ks.map t.at)) [.str "sign",.str x,.ref ta,.int sn],[0,c],_,f1,f2,D,rfl,hb4,lk,k2.kt _ _ en,eg,hD,F1,F2,λ_ _ h _=>zC hb2 S.cB (λz hz=>(oy ks lk z hz).2) h _,λH H' e s=>e.same s,λD H hD e=>e.dk hD,⟨z0,rfl,by rw[ez,hc];rfl⟩,⟨0,c,rfl,S.pos,hcB⟩,ev,hm,λxs H3 s3 nd rc lt=>?_,λxs mw p H3 s3 hl hle gr oz=>?_⟩
  ·exact q0 ks xs c H3 ((KX.same s1).trans (k2.trans (KX.same s3))) (tb2.same s3) fr hc nd rc lt
  ·exact q ks p nm xs c mw H3 ((KX.same s1).trans (k2.trans (KX.same s3))) (tb2.same s3) fr hc oz (s3 _ _ (k2.kt _ _ en)) hl hle gr
def bU(f:Nat->Nat):Nat->Nat->Nat
 | 0,x=>x
 | k+1,x=>f (bU f k x)
theorem mK(f:Nat->Nat):∀a b x,bU f (a+b) x=bU f a (bU f b x)
 | 0,b,x=>by rw[DD];rfl
 | a+1,b,x=>by rw[Nat.succ_add];exact congrArg f (mK f a b x)
theorem pH{f:Nat->Nat}{n:Nat}(h:∀x,x<n->f x<n):∀k x,x<n->bU f k x<n
 | 0,x,hx=>hx
 | k+1,x,hx=>h _ (pH h k x hx)
theorem YB:∀(n:Nat) (g:Nat->Nat),(∀k,k<=n->g k<n)->∃i j,i<j/\j<=n/\g i=g j
 | 0,g,h=>absurd (h 0 (AM _)) (Nat.not_lt_zero _)
 | n+1,g,h=>by
  by_cases e:∃i,i<=n/\g i=g (n+1)
  ·obtain⟨i,hi,e⟩:=e
   exact⟨i,n+1,by omega,AM _,e⟩
  ·have ne:∀i,i<=n->g i≠g (n+1):=λi hi z=>e ⟨i,hi,z⟩
   have hv:=h (n+1) (AM _)
   obtain⟨i,j,hij,hj,eq⟩:=YB n (λk=>if g (n+1)<g k then g k-1 else g k) (λk hk=>by
    have h1:=h k (by omega)
    have h2:=ne k hk
    show(if g (n+1)<g k then g k-1 else g k)<n
    split<;>omega)
   refine⟨i,j,hij,by omega,?_⟩
   have h1:=ne i (by omega)
   have h2:=ne j hj
   have eq':(if g (n+1)<g i then g i-1 else g i)=(if g (n+1)<g j then g j-1 else g j):=eq
   split at eq'<;>split at eq'<;>omega
theorem ring{f:Nat->Nat}{n r:Nat}(h:∀x,x<n->f x<n)(hr:r<n):∃p,0<p/\p<=n/\bU f p (bU f n r)=bU f n r:=by
 obtain⟨i,j,hij,hj,e⟩:=YB n (λk=>bU f k r) (λk _=>pH h k r hr)
 refine⟨j-i,by omega,by omega,?_⟩
 have e1:bU f n r=bU f (n-j) (bU f j r):=by rw[<-mK];congr 1;omega
 have e2:bU f (j-i) (bU f n r)=bU f (n-i) (bU f j r):=by rw[e1,<-mK];congr 1;omega
 have e3:bU f n r=bU f (n-i) (bU f i r):=by rw[<-mK];congr 1;omega
 rw[e2,e3]
 exact congrArg _ e.symm
theorem lG(f:Nat->Nat):∀k x,bU f k (f x)=bU f (k+1) x
 | 0,_=>rfl
 | k+1,x=>congrArg f (lG f k x)
def mL(f:Nat->Nat)(n x m:Nat):Prop:=(∃k,m=bU f k (bU f n x))/\∀k,m<=bU f k (bU f n x)
theorem mL.next{f:Nat->Nat}{n x m m':Nat}(h:∀x,x<n->f x<n)(hx:x<n)(a:mL f n x m)(b:mL f n (f x) m'):m'=m:=by
 obtain⟨p,p0,_,hp⟩:=ring h hx
 have e:bU f n (f x)=f (bU f n x):=lG f n x
 unfold mL at a b
 rw[e] at b
 generalize bU f n x=c at a b hp
 obtain⟨⟨k1,e1⟩,l1⟩:=a
 obtain⟨⟨k2,e2⟩,l2⟩:=b
 rw[lG] at e2
 have h1:=l1 (k2+1)
 have h3:bU f k1 c=bU f (k1+(p-1)) (f c):=by
  rw[lG,show k1+(p-1)+1=k1+p by omega,mK,hp]
 have h2:=l2 (k1+(p-1))
 rw[<-h3] at h2
 omega
def OX:Sp:=λvs H Q _=>∃(M:Addr) (ps:List Addr) (n b:Nat) (mv:List (List Nat)),vs=[.ref M]/\H M=some (.tup (ps.map V.ref))/\bY H ps (mv.map aD)/\Moves n b mv/\0<b/\n<=2000/\
 ∀(D:Addr) (rs:List Nat) (H':Hp),H D=none->Same H H'->H' D=some (.lst ((aD rs).map V.int))->rs.length=n->(∀r∈rs,r<n)->(∀r,r<n->rs.getD (stp mv r 0) 0=rs.getD r 0)->Q (.ref D) H'
theorem fC:aO ["_law_moves","_law_found","_law_room","_law_at","_law_turn","_law_ring"] ["_law_moves"] (ah h_):=⟨rfl,rfl,rfl,by decide+kernel,rfl,by decide+kernel,by decide+kernel⟩
theorem qy{a:bR}(T:Txt K mg a):aR P w K mg base bj 1 a.kZ a.nr ["_law_moves"] OX:=by
 refine T.L9.ok fC (λvs H Q E h=>?_) (λcdv A outer s H vs Q E hr h=>?_)
 ·obtain⟨M,ps,n,b,mv,rfl,_⟩:=h
  rfl
 ·obtain⟨M,ps,n,b,mv,rfl,eM,tp,hm,hb,hn,k⟩:=h
  refine⟨_,(ai (ay (i:=1) fC.nd rfl (Ad rfl) (cf ag))
  (ai (dg A0 rfl (cj rfl T.cZ (ae (aL (bu K) (by rfl) T.cF bW (ae (pv 0) ag)) ag)) (aH (i:=2) fC.nd rfl (Ad rfl))
   (ai (ay (i:=3) fC.nd rfl (Ad rfl) (pv 2))
   (ai (dg A0 rfl (fO (pv 0)) (aH (i:=4) fC.nd rfl (Ad rfl))
    (av (ay (i:=3) fC.nd rfl (Ad rfl) (aB (ax K) (aB (ax K) (pv 0) (pv 3) (λ_ _=>rfl)) aj (λ_ _=>rfl)))))
   (ai (ay (i:=5) fC.nd rfl (Ad rfl) (cf (ae (pv 3) ag)))
   (ai (fN A0 (bx pR (aB (ax K) (aB (ax K) (pv 0) (aB (cP K) (pv 5) (xk rF aj) (λ_ _=>rfl)) (λ_ _=>rfl)) aj (λ_ _=>rfl)) (pv 3) (bD _))
    (av (cG (dO Au A_ A' cy (pv 5) (ae (aB (ax K) (aB (ax K) (pv 0) (aB (cP K) (pv 5) (xk rF aj) (λ_ _=>rfl)) (λ_ _=>rfl)) aj (λ_ _=>rfl)) ag)))))
   (av (cG (dO Au A_ A' cy (pv 1) (ae (aL (LB K rfl) (by rfl) T.Xg S4 (ae (pv 5) ag)) ag)))))))))
  (av (aQ (pv 1))))),?_⟩
  have big:(10000:Nat)<=sizeLine:=by decide
  have lp:ps.length=n:=by rw[AX tp,AB,hm.len]
  let f:Nat->Nat:=λx=>(mv.getD x []).getD 0 0
  have hf:∀x,x<n->f x<n:=λx hx=>hm.at hx hb
  have look:∀{H':Hp} (x:Nat),Same H H'->x<n->aZ K H' M (ps.map V.ref)/\je (ps.map V.ref) (x:Int)=some (.ref (ps.getD x 0))/\aZ K H' (ps.getD x 0) ((aD (mv.getD x [])).map V.int)/\je ((aD (mv.getD x [])).map V.int) 0=some (.int (f x:Nat)):=λx s hx=>by
   obtain⟨h1,h2,h3⟩:=hm.row tp hx
   exact⟨.of (s _ _ eM),au (by rw[AW,h1];rfl),.of (s _ _ h2),au (j:=0) (cU (by omega))⟩
  refine aN λY hY=>?_
  refine⟨by decide,λD hD=>?_⟩
  dsimp only[aJ]
  subst hY
  refine aN λY hY=>?_
  have sD:=Same.new (o:=.lst []) hD
  have nMD:M≠D:=ak eM hD
  refine⟨_,rfl,_,n,rfl,.inr ⟨_,.of (sD _ _ eM),by rw[AB,lp]⟩,_,rfl,by omega,by omega,m9 (n:=(n:Int).toNat) (λi σ H'=>∃(rs:List Nat) (v2 v3 v4 v5:Option V),σ=[some (.ref M),some (.ref D),v2,v3,v4,v5]/\Same H H'/\H' D=some (.lst ((aD rs).map V.int))/\rs.length=i/\(∀r∈rs,r<n)/\∀j,j<i->mL f n j (rs.getD j 0))
   ⟨[],none,none,none,none,rfl,sD,af,rfl,λr hr=>(by cases hr),λj hj=>absurd hj (Nat.not_lt_zero _)⟩ ?_ ?_⟩
  ·rintro i σ H1 N hN hi ⟨rs,v2,v3,v4,v5,rfl,s1,d1,lr,hrs,hra⟩
   rw[Ag] at hi
   have ei:(0:Int)+(i:Int)=((bU f 0 i:Nat):Int):=by show _=(i:Int);omega
   dsimp only[aJ]
   refine aN λY2 jn=>?_
   refine⟨_,rfl,?_⟩
   dsimp only[aJ]
   subst jn
   refine aN λY2 jn=>?_
   refine⟨_,rfl,M,rfl,⟨_,.of (s1 _ _ eM)⟩,N5 (xs:=ps.map V.ref) (λj σ H'=>∃v4:Option V,σ=[some (.ref M),some (.ref D),some (.int (0+(i:Int))),some (.int (bU f j i:Nat)),v4,v5]/\H'=H1)
    ⟨v4,?st,rfl⟩ (λj σ H' _ ⟨_,_,e⟩=>by rw[e];exact .of (s1 _ _ eM)) ?_ ?_⟩
   case st=>rw[<-ei];rfl
   ·rintro j x σ H2 N2 Mw hx ⟨v4,rfl,rfl⟩
    obtain⟨l1,l2,l3,l4⟩:=look (bU f j i) s1 (pH hf j i hi)
    exact⟨_,rfl,_,rfl,M,_,_,_,rfl,rfl,l1,l2,_,_,_,_,rfl,rfl,l3,l4,Mw _ _ ⟨some x,rfl,rfl⟩⟩
   rintro σ H2 ⟨v4,rfl,rfl⟩
   rw[AB,lp]
   have hat:=pH hf n i hi
   obtain⟨p,hp0,hpn,hp⟩:=ring hf hi
   generalize ZY:bU f n i=at_ at hat hp ⊢
   subst jn
   dsimp only
   refine aN λY2 jn=>?_
   refine⟨_,rfl,by show 1<=sizeLine;decide,λR hR=>?_⟩
   have sR:=Same.new (o:=.lst [.int (at_:Nat)]) hR
   have YC:D≠R:=ak d1 hR
   have nR0:H R=none:=s1.free hR
   dsimp only[aJ]
   subst jn
   refine aN λY2 jn=>?_
   refine p7 (λm σ H'=>∃(ks:List Nat) (j:Nat),m=p-j/\j<p/\σ=[some (.ref M),some (.ref D),some (.int (0+(i:Int))),some (.int (at_:Nat)),v4,some (.ref R)]/\Same H H'/\H' D=some (.lst ((aD rs).map V.int))/\H' R=some (.lst ((aD (ks++[bU f j at_])).map V.int))/\ks.length=j/\(∀x∈ks,x<n)/\ks=(BM j).map λk=>bU f k at_)
    ⟨_,[],0,rfl,hp0,rfl,s1.trans sR,by rw[ao YC];exact d1,af,rfl,λx hx=>(by cases hx),rfl⟩ ?_ ?_
   ·rintro m σ H2 N3 hN3 ⟨ks,j,rfl,hj,rfl,s2,d2,r2,lk,hks,ek⟩
    have hc:=pH hf j at_ hat
    have stp:bU f (j+1) at_=f (bU f j at_):=rfl
    obtain⟨l1,l2,l3,l4⟩:=look (bU f j at_) s2 hc
    have lst:∀c:Nat,(aD (ks++[c])).map V.int=(aD ks).map V.int++[.int (c:Nat)]:=λc=>by rw[cL,AJ];rfl
    have la:je ((aD (ks++[bU f j at_])).map V.int) (-1)=some (.int (bU f j at_:Nat)):=by rw[lst];exact Nz _ _
    have len:((aD (ks++[bU f j at_])).map V.int).length<sizeLine:=by rw[AB,bL,AG,lk];show j+1<_;omega
    generalize hcj:bU f j at_=c at*
    refine⟨_,rfl,_,rfl,_,rfl,R,_,_,_,rfl,rfl,.of r2,la,M,_,_,_,rfl,rfl,l1,l2,_,_,_,_,rfl,rfl,l3,l4,_,rfl,rfl,_,rfl,?_⟩
    refine cW (λz=>?_) (λzz=>?_)
    ·have ne:f c≠at_:=λy=>by rw[y] at z;simp at z
     have lt:j+1<p:=by
      rcases Nat.lt_or_ge (j+1) p with y | y
      ·exact y
      ·have e:p=j+1:=by omega
       rw[e,stp] at hp
       exact absurd hp ne
     refine⟨_,rfl,.inl ⟨rfl,_,.of r2⟩,_,rfl,_,rfl,_,rfl,R,_,_,_,rfl,rfl,.of r2,la,M,_,_,_,rfl,rfl,l1,l2,_,_,_,_,rfl,rfl,l3,l4,R,_,_,rfl,rfl,r2,len,hN3 _ _ (p-(j+1)) (by omega) ⟨ks++[c],j+1,rfl,lt,rfl,s2.kbn nR0 KB.write,by rw[ao YC];exact d2,?_,by rw[AG,lk];rfl,λx hx=>?_,by rw[DJ,AJ,ek];exact congrArg (λq=>(BM j).map (λk=>bU f k at_)++[q]) hcj.symm⟩⟩
     ·rw[af,stp,cL (ks++[c]),AJ];rfl
     ·rcases Ab.mp hx with y | y
      ·exact hks x y
      ·rw[AR.mp y];exact hc
    ·subst jn
     dsimp only
     refine⟨_,rfl,.inl ⟨rfl,_,.of d2⟩,_,rfl,R,_,rfl,.of r2,?nn,λm hmm hle=>?_⟩
     case nn=>intro z;have:=congrArg Gg z;rw[bL,AG] at this;cases this
     obtain⟨x,hx,rfl⟩:=A1.mp hmm
     have hxn:x<n:=by
      rcases Ab.mp hx with y | y
      ·exact hks x y
      ·rw[AR.mp y];exact hc
     refine⟨D,_,_,rfl,rfl,d2,?_,hN _ _ ⟨rs++[x],_,_,_,_,rfl,s2.kbn hD KB.write,?_,by rw[AG,lr];rfl,λr hr=>?_,λq hq=>?_⟩⟩
     ·rw[AB,bL];omega
     ·rw[af,cL,AJ];rfl
     ·rcases Ab.mp hr with y | y
      ·exact hrs r y
      ·rw[AR.mp y];exact hxn
     ·by_cases hqi:q<i
      ·rw[BV,An (by omega),<-BV];exact hra q hqi
      ·have eqi:q=i:=by omega
       subst eqi
       rw[BV,Aj (by omega),show q-rs.length=0 by omega]
       have fc:f c=at_:=Classical.byContradiction λy=>zz (by rw[Bool.not_eq_true',decide_eq_false_iff_not];intro w;injection w with w;exact y (by omega))
       have all:∀k,bU f k at_∈ks++[c]:=λk=>by
        have eL:ks++[c]=(BM (j+1)).map λk=>bU f k at_:=by rw[DJ,AJ,ek];exact congrArg (λq=>(BM j).map (λk=>bU f k at_)++[q]) hcj.symm
        rw[eL]
        induction k with
        | zero=>exact A1.mpr ⟨0,CT.mpr (by omega),rfl⟩
        | succ k ih=>
         obtain⟨q,hq,e⟩:=A1.mp ih
         have hq:=CT.mp hq
         show f (bU f k at_)∈_
         rw[<-e]
         by_cases hqj:q<j
         ·exact A1.mpr ⟨q+1,CT.mpr (by omega),rfl⟩
         ·have:q=j:=by omega
          subst this
          rw[show f (bU f q at_)=at_ by rw[hcj];exact fc]
          exact A1.mpr ⟨0,CT.mpr (by omega),rfl⟩
       have ex:∃k,x=bU f k at_:=by
        rcases Ab.mp hx with y | y
        ·rw[ek] at y
         obtain⟨k,_,e⟩:=A1.mp y
         exact⟨k,e.symm⟩
        ·rw[AR.mp y];exact⟨j,hcj.symm⟩
       have le:∀k,x<=bU f k at_:=λk=>by
        have:=hle _ (A1.mpr ⟨_,all k,rfl⟩)
        omega
       unfold mL
       rw[ZY]
       exact⟨ex,le⟩
   ·rintro σ H Q Q' hQ ⟨v1,e1,v2,e2,v3,e3,a1,x1,i1,w1,e4,e5,h6,h7,a2,x2,i2,w2,e8,e9,h10,h11,a3,x3,i3,w3,MF,e13,h14,h15,v4,e16,e17,b,e18,q⟩
    exact⟨v1,e1,v2,e2,v3,e3,a1,x1,i1,w1,e4,e5,h6,h7,a2,x2,i2,w2,e8,e9,h10,h11,a3,x3,i3,w3,MF,e13,h14,h15,v4,e16,e17,b,e18,hQ _ _ q⟩
  ·rintro σ H1 ⟨rs,v2,v3,v4,v5,rfl,s1,d1,lr,hrs,hra⟩
   rw[Ag] at lr hra
   subst hY
   exact⟨_,rfl,k D rs H1 hD s1 d1 lr hrs λr hr=>(hra r hr).next hf hr (hra _ (hf r hr))⟩
theorem bK.ktu{H H':Hp}{F L:Addr}(h:bK H F L)(k:cm F L H H'):aW H H':=λb ys e=>by
 obtain⟨ms,n,sd,e1,e2,_⟩:=h.ex
 exact k b _ e (fL e e1 (λz=>nomatch z)) (fL e e2 (λz=>nomatch z))
def Qa:Sp:=λvs H Q _=>∃(F L:Addr) (b:Nat),vs=[.ref F,.int b]/\bK H F L/\2<=b/\b<=4/\∀(ra:Addr) (sg:List Nat) (mv:List (List Nat)) (n:Nat) (H':Hp),cm F L H H'->bK H' F L->jD H' ra sg mv->sg.length=n->0<n->n<=27->Moves n b mv->(∀x∈sg,x<=9)->(∀r,r<n->sg.getD (stp mv r 0) 0=sg.getD r 0)->Q (.ref ra) H'
theorem nJ:aO ["_law_feed_here","_law_base","_law_many","_law_moves","_law_signs"] ["_law_feed_here","_law_base"] (ah gg):=⟨rfl,rfl,rfl,by decide+kernel,rfl,by decide+kernel,by decide+kernel⟩
set_option maxHeartbeats 16000000 in
theorem OY{a:bR}(T:Txt K mg a):aR P w K mg base bj 2 a.p8 a.qP ["_law_feed_here","_law_base"] Qa:=by
 have aX:=ib (P:=P) (w:=w) (base:=base) T
 have pI:=qy (P:=P) (w:=w) (base:=base) T
 refine T.RA.ok nJ (λvs H Q E h=>?_) (λcdv A outer s H vs Q E hr h=>?_)
 ·obtain⟨F,L,b,rfl,_⟩:=h
  rfl
 ·obtain⟨F,L,b,rfl,hf,hb2,hb4,k⟩:=h
  have aS:aP 1 _:=hr
  have nK:aP 1 _:=hr
  refine⟨_,(ai (ay (i:=2) nJ.nd rfl (DK rfl) (aV dX aj (aA aX aS rfl T.bo T.bp T.bq .nil aK (ae (pv 0) (ae aj ag)))))
  (ai (ay (i:=3) nJ.nd rfl (Ad rfl) (bF (bG K) (by rfl) T.b_ bS (ae (bN (aG.mk' (esc:=ah gg) (N:=["_law_feed_here","_law_base","_law_many","_law_moves","_law_signs"]) (own:=["_law_room"]) (aI:=["_law_feed_here","_law_many","_law_base"]) (bJ:=[0,2,1]) rfl rfl (by decide+kernel)) rfl (cj rfl T.cZ (ae (pv 2) ag)) (λ_ _ _ _=>(aH (i:=0) (show A3 (["_law_room","_law_feed_here","_law_many","_law_base"]:List Str) by decide+kernel) rfl (Ad rfl))) (λ_ _ _ _=>a_) (λ_ _ _ _=>(bF (bG K) (by rfl) T.b_ bS (ae (bN (aG.mk' (esc:=_) (N:=["_law_room","_law_feed_here","_law_many","_law_base"]) (own:=["_law_figure"]) (aI:=["_law_feed_here","_law_many"]) (bJ:=[1,2]) rfl rfl (by rfl)) rfl (cj rfl T.cZ (ae (pv 3) ag)) (λ_ _ _ _=>(aH (i:=0) (show A3 (["_law_figure","_law_feed_here","_law_many"]:List Str) by decide+kernel) rfl (Ad rfl))) (λ_ _ _ _=>a_) (λ_ _ _ _=>(aA aX aS rfl T.bo T.bp T.bq .nil aK (ae (pv 1) (ae (pv 2) ag))))) ag)))) ag)))
  (ai (ay (i:=4) nJ.nd rfl (DK rfl) (bN (aG.mk' (esc:=ah gg) (N:=["_law_feed_here","_law_base","_law_many","_law_moves","_law_signs"]) (own:=["_law_room"]) (aI:=["_law_feed_here"]) (bJ:=[0]) rfl rfl (by decide+kernel)) rfl (fO (pv 3)) (λ_ _ _ _=>(aH (i:=0) (show A3 (["_law_room","_law_feed_here"]:List Str) by decide+kernel) rfl (Ad rfl))) (λ_ _ _ _=>a_) (λ_ _ _ _=>(aA aX aS rfl T.bo T.bp T.bq .nil aK (ae (pv 1) (ae (aB (cP K) (cf (ae aj (ae aj ag))) (aA aX aS rfl T.bo T.bp T.bq .nil aK (ae (pv 1) (ae aj ag))) (λ_ _=>rfl)) ag))))))
  (av (aQ (bf (ae (bF (bG K) (by rfl) T.b_ bS (ae (bN (aG.mk' (esc:=ah gg) (N:=["_law_feed_here","_law_base","_law_many","_law_moves","_law_signs"]) (own:=["_law_room"]) (aI:=["_law_signs"]) (bJ:=[4]) rfl rfl (by decide+kernel)) rfl (cH (aA pI nK rfl T.vF T.vG T.vH .nil aK (ae (pv 3) ag))) (λ_ _ _ _=>(aH (i:=0) (show A3 (["_law_room","_law_signs"]:List Str) by decide+kernel) rfl (Ad rfl))) (λ_ _ _ _=>a_) (λ_ _ _ _=>(aB (cP K) (pv 1) (pv 0) (λ_ _=>rfl)))) ag)) (ae (pv 3) ag)))))))),?_⟩
  have tJ:(2 ^ 10:Nat)<2 ^ 1000:=Cp (by decide) (by decide)
  have big:(10000:Nat)<=sizeLine:=by decide
  have small:∀x:Nat,x<=1000->x<2 ^ 1000:=λx hx=>CG (show x<2 ^ 10 by omega) tJ
  refine aN λY hY=>?_
  refine⟨_,rfl,F,L,8,rfl,hf,by decide,small _ (by decide),λr H1 r1 k1 f1=>⟨_,_,rfl,rfl,?_⟩⟩
  have en:(1:Int)+(r:Int)=((1+r:Nat):Int):=by omega
  dsimp only[aJ]
  subst hY
  rw[en]
  generalize hN:1+r=n
  have n0:0<n:=by omega
  have n1:n<=27:=by omega
  refine aN λY hY=>?_
  refine⟨_,rfl,_,rfl,by omega,by omega,λM hM=>?_⟩
  have nM:=f1.iF hM
  refine dZ (λi σ H'=>∃(ps:List Addr) (mv:List (List Nat)) (v8:Option V),σ=[v8,some (.ref F),some (.int (n:Nat)),some (.int (b:Nat))]/\cm F L H1 H'/\bK H' F L/\H' M=some (.lst (ps.map V.ref))/\bY H' ps (mv.map aD)/\mv.length=i/\∀l∈mv,l.length=b/\∀x∈l,x<n)
   ⟨[],[],none,?Vb,(Same.new hM).kb2,f1.same (Same.new hM),af,.nil,rfl,λl hl=>(by cases hl)⟩ ?_ ?_
  case Vb=>rfl
  ·rintro i σ H2 hi ⟨ps,mv,v8,rfl,k2,f2,m2,pJ,lm,ok⟩
   rw[Ag] at hi
   refine⟨_,rfl,_,rfl,by omega,by omega,λC hC=>?_⟩
   have nC:=f2.iF hC
   have nMC:M≠C:=ak m2 hC
   refine dZ (λj σ H'=>∃(rs:List Nat) (v:Option V),σ=[v,some (.ref F),some (.int (n:Nat))]/\cm F L H2 H'/\bK H' F L/\H' C=some (.lst ((aD rs).map V.int))/\rs.length=j/\∀r∈rs,r<n)
    ⟨[],none,?sg,(Same.new hC).kb2,f2.same (Same.new hC),af,rfl,λr hr=>(by cases hr)⟩ ?_ ?_
   case sg=>rfl
   ·rintro j σ H3 hj ⟨rs,v,rfl,k3,f3,c3,lr,hrs⟩
    rw[Ag] at hj
    refine⟨_,rfl,_,rfl,F,L,n,rfl,f3,n0,small _ (by omega),λq H4 q1 k4 f4=>?_⟩
    refine⟨_,k4 _ _ c3 nC.1 nC.2,?_,rs++[q],_,rfl,cm.lP (k3.trans k4) hC,f4.upd nC,?_,by rw[AG,lr];rfl,λx hx=>?_⟩
    ·rw[AB,bL];omega
    ·rw[af,cL,AJ];rfl
    ·rcases Ab.mp hx with z | z
     ·exact hrs x z
     ·rw[AR.mp z];exact q1
   rintro σ H3 ⟨rs,v,rfl,k3,f3,c3,lr,hrs⟩
   rw[Ag] at lr
   have m3:=k3 _ _ m2 nM.1 nM.2
   refine⟨C,_,rfl,.inl ⟨.of c3,λD hD=>?_⟩⟩
   have sD:=Same.new (o:=.tup ((aD rs).map V.int)) hD
   have m4:=sD _ _ m3
   have Vc:bY (upd H3 D (.tup ((aD rs).map V.int))) ps (mv.map aD):=(pJ.keep (f2.ktu k3)).keep sD.kt
   have lps:ps.length=i:=by rw[AX pJ,AB,lm]
   have ktM:aW (upd H3 D (.tup ((aD rs).map V.int))) (upd (upd H3 D (.tup ((aD rs).map V.int))) M (.lst (ps.map V.ref++[.ref D]))):=aW.lst m4
   refine⟨_,m4,?_,ps++[D],mv++[rs],_,rfl,?_,?_,?_,?_,by rw[AG,lm];rfl,λl hl=>?_⟩
   ·rw[AB,lps];omega
   ·exact cm.lP ((k2.trans k3).trans sD.kb2) hM
   ·exact(f3.same sD).upd nM
   ·rw[af,AJ];rfl
   ·rw[AJ]
    exact bA (Vc.keep ktM) (.cons (ktM _ _ af) .nil)
   ·rcases Ab.mp hl with z | z
    ·exact ok l z
    ·rw[AR.mp z];exact⟨lr,hrs⟩
  rintro σ H2 ⟨ps,mv,v8,rfl,k2,f2,m2,pJ,lm,ok⟩
  rw[Ag] at lm
  have cB:Moves n b mv:=⟨lm,ok⟩
  have lps:ps.length=n:=by rw[AX pJ,AB,lm]
  refine⟨M,_,rfl,.inl ⟨.of m2,λMt Vd=>?_⟩⟩
  have zJ:=Same.new (o:=.tup (ps.map V.ref)) Vd
  have tK:(upd H2 Mt (.tup (ps.map V.ref))) Mt=some (.tup (ps.map V.ref)):=af
  have k2':=k2.trans zJ.kb2
  have mM:=f2.same zJ
  have zK:=pJ.keep zJ.kt
  generalize upd H2 Mt (.tup (ps.map V.ref))=Qb at tK k2' mM zK ⊢
  dsimp only[aJ]
  subst hY
  refine aN λW hW=>?_
  refine⟨_,rfl,Mt,rfl,⟨_,.of tK⟩,λY hY=>?_⟩
  have nY:=mM.iF hY
  refine fj (xs:=ps.map V.ref) (λj σ H'=>∃(bs:List Nat) (v:Option V),σ=[v,some (.ref F)]/\cm F L Qb H'/\bK H' F L/\H' Y=some (.lst ((aD bs).map V.int))/\bs.length=j/\∀x∈bs,x<=9)
   ⟨[],none,?sg1,(Same.new hY).kb2,mM.same (Same.new hY),af,rfl,λx hx=>(by cases hx)⟩ (λj σ H' _ ⟨_,_,_,k',_⟩=>.of (mM.ktu k' _ _ tK)) ?_ ?_
  case sg1=>rfl
  ·rintro j x σ H3 hx ⟨bs,v,rfl,k3,f3,y3,lb,hb9⟩
   have hj:j<ps.length:=by have:=(AF.mp hx).1;rwa [AB] at this
   refine⟨_,rfl,by show 2<=sizeLine;decide,λZ hZ=>?_⟩
   have sZ:=Same.new (o:=.lst [.int 2,.int 10]) hZ
   have nZ:=f3.iF hZ
   refine⟨_,rfl,F,L,2,rfl,f3.same sZ,by decide,small _ (by decide),λr2 H4 q2 k4 f4=>?_⟩
   obtain⟨d,hd,hd0,YD⟩:∃d:Nat,je ([.int 2,.int 10]:List V) (r2:Int)=some (.int (d:Nat))/\0<d/\d<=10:=by
    match r2,q2 with
    | 0,_=>exact⟨2,rfl,by decide,by decide⟩
    | 1,_=>exact⟨10,rfl,by decide,by decide⟩
   refine⟨Z,_,_,.int (d:Nat),rfl,rfl,.of (k4 _ _ af nZ.1 nZ.2),hd,F,L,d,rfl,f4,hd0,small _ (by omega),λq H5 q1 k5 f5=>?_⟩
   have k35:=(sZ.kb2.trans k4).trans k5
   refine⟨_,k35 _ _ y3 nY.1 nY.2,?_,bs++[q],_,rfl,cm.lP (k3.trans k35) hY,f5.upd nY,?_,by rw[AG,lb];rfl,λz hz=>?_⟩
   ·rw[AB,bL];omega
   ·rw[af,cL,AJ];rfl
   ·rcases Ab.mp hz with y | y
    ·exact hb9 z y
    ·rw[AR.mp y];omega
  rintro σ H3 ⟨bs,v,rfl,k3,f3,y3,lb,hb9⟩
  rw[AB,lps] at lb
  have M4:=mM.ktu k3 _ _ tK
  have pC:=zK.keep (mM.ktu k3)
  have kk:=(k1.trans k2').trans k3
  dsimp only[aJ]
  subst hW
  refine⟨_,rfl,Mt,ps,n,b,mv,rfl,M4,pC,cB,by omega,by omega,λR rs H4 hR s4 r4 lr hrs hst=>?_⟩
  have y4:=s4 _ _ y3
  refine⟨R,rfl,⟨_,.of r4⟩,λC hC=>?_⟩
  refine dn (xs:=(aD rs).map V.int) (λj σ H'=>∃(cs:List Nat) (v:Option V),σ=[v,some (.ref Y)]/\Same H4 H'/\H' C=some (.lst ((aD cs).map V.int))/\cs.length=j/\cs=(rs.take j).map λr=>bs.getD r 0)
   ⟨[],none,?sg2,Same.new hC,af,rfl,rfl⟩ (λj σ H' _ ⟨_,_,_,s',_⟩=>.of (s' _ _ r4)) ?_ ?_
  case sg2=>rfl
  ·rintro j x σ H5 hx ⟨cs,v,rfl,s5,c5,lc,pK⟩
   obtain⟨q,rfl,eq⟩:=uh hx
   have hq:=hrs q (AL eq)
   have hj:j<rs.length:=(AF.mp eq).1
   refine⟨_,rfl,_,rfl,Y,_,_,.int (bs.getD q 0:Nat),rfl,rfl,.of (s5 _ _ y4),au (cU (by omega)),_,c5,?_,cs++[bs.getD q 0],_,rfl,s5.kbn hC KB.write,?_,by rw[AG,lc];rfl,?_⟩
   ·rw[AB,bL];omega
   ·rw[af,cL,AJ];rfl
   ·rw[take_snoc eq,AJ,<-pK];rfl
  rintro σ H5 ⟨cs,v,rfl,s5,c5,lc,pK⟩
  rw[AB,bL,lr] at lc
  rw[AB,bL,Ax] at pK
  have M5:∀r,r<n->cs.getD r 0=bs.getD (rs.getD r 0) 0:=λr hr=>by
   rw[pK,BV,AW,item_at 0 (by omega:r<rs.length)];rfl
  refine⟨C,_,rfl,.inl ⟨.of c5,λD hD=>?_⟩⟩
  have sD:=Same.new (o:=.tup ((aD cs).map V.int)) hD
  have Ve:=(s4.trans s5).trans sD
  refine⟨_,rfl,by show 2<=sizeLine;decide,λra hra=>?_⟩
  have M6:=Same.new (o:=.tup [.ref D,.ref Mt]) hra
  have df:=Ve.trans M6
  refine k ra cs mv n _ (kk.trans df.kb2) (f3.same df) ⟨D,Mt,ps,af,M6 _ _ af,df _ _ M4,pC.keep df.kt⟩ lc n0 n1 cB (λx hx=>?_) (λr hr=>by rw[M5 _ (cB.stp hr (by omega)),M5 _ hr,hst r hr])
  rw[pK] at hx
  obtain⟨r,hr',rfl⟩:=A1.mp hx
  have:=hrs r hr'
  exact hb9 _ (AL (item_at 0 (show r<bs.length by omega)))
theorem lH:aO ["_law_feed_here","_law_base","_law_many","_law_moves","_law_signs"] ["_law_feed_here","_law_base"] (ah fu):=⟨rfl,rfl,rfl,by decide+kernel,rfl,by decide+kernel,by decide+kernel⟩
set_option maxHeartbeats 16000000 in
theorem M7{a:bR}(T:Txt K mg a):aR P w K mg base bj 2 a.nA a.o4 ["_law_feed_here","_law_base"] Qa:=by
 have aX:=ib (P:=P) (w:=w) (base:=base) T
 have pI:=qy (P:=P) (w:=w) (base:=base) T
 refine T.OB.ok lH (λvs H Q E h=>?_) (λcdv A outer s H vs Q E hr h=>?_)
 ·obtain⟨F,L,b,rfl,_⟩:=h
  rfl
 ·obtain⟨F,L,b,rfl,hf,hb2,hb4,k⟩:=h
  have aS:aP 1 _:=hr
  have nK:aP 1 _:=hr
  refine⟨_,(ai (ay (i:=2) lH.nd rfl (DK rfl) (aV dX aj (aA aX aS rfl T.bo T.bp T.bq .nil aK (ae (pv 0) (ae aj ag)))))
  (ai (ay (i:=3) lH.nd rfl (Ad rfl) (bF (bG K) (by rfl) T.b_ bS (ae (bN (aG.mk' (esc:=ah fu) (N:=["_law_feed_here","_law_base","_law_many","_law_moves","_law_signs"]) (own:=["_law_room"]) (aI:=["_law_feed_here","_law_many","_law_base"]) (bJ:=[0,2,1]) rfl rfl (by decide+kernel)) rfl (cj rfl T.cZ (ae (pv 2) ag)) (λ_ _ _ _=>(aH (i:=0) (show A3 (["_law_room","_law_feed_here","_law_many","_law_base"]:List Str) by decide+kernel) rfl (Ad rfl))) (λ_ _ _ _=>a_) (λ_ _ _ _=>(bF (bG K) (by rfl) T.b_ bS (ae (bN (aG.mk' (esc:=_) (N:=["_law_room","_law_feed_here","_law_many","_law_base"]) (own:=["_law_figure"]) (aI:=["_law_feed_here","_law_many"]) (bJ:=[1,2]) rfl rfl (by rfl)) rfl (cj rfl T.cZ (ae (pv 3) ag)) (λ_ _ _ _=>(aH (i:=0) (show A3 (["_law_figure","_law_feed_here","_law_many"]:List Str) by decide+kernel) rfl (Ad rfl))) (λ_ _ _ _=>a_) (λ_ _ _ _=>(aA aX aS rfl T.bo T.bp T.bq .nil aK (ae (pv 1) (ae (pv 2) ag))))) ag)))) ag)))
  (ai (ay (i:=4) lH.nd rfl (DK rfl) (bN (aG.mk' (esc:=ah fu) (N:=["_law_feed_here","_law_base","_law_many","_law_moves","_law_signs"]) (own:=["_law_room"]) (aI:=["_law_feed_here"]) (bJ:=[0]) rfl rfl (by decide+kernel)) rfl (fO (pv 3)) (λ_ _ _ _=>(aH (i:=0) (show A3 (["_law_room","_law_feed_here"]:List Str) by decide+kernel) rfl (Ad rfl))) (λ_ _ _ _=>a_) (λ_ _ _ _=>(aA aX aS rfl T.bo T.bp T.bq .nil aK (ae (pv 1) (ae (aB (cP K) (cf (ae aj (ae aj ag))) (aA aX aS rfl T.bo T.bp T.bq .nil aK (ae (pv 1) (ae aj ag))) (λ_ _=>rfl)) ag))))))
  (av (aQ (bf (ae (bF (bG K) (by rfl) T.b_ bS (ae (bN (aG.mk' (esc:=ah fu) (N:=["_law_feed_here","_law_base","_law_many","_law_moves","_law_signs"]) (own:=["_law_room"]) (aI:=["_law_signs"]) (bJ:=[4]) rfl rfl (by decide+kernel)) rfl (cH (aA pI nK rfl T.vF T.vG T.vH .nil aK (ae (pv 3) ag))) (λ_ _ _ _=>(aH (i:=0) (show A3 (["_law_room","_law_signs"]:List Str) by decide+kernel) rfl (Ad rfl))) (λ_ _ _ _=>a_) (λ_ _ _ _=>(aB (cP K) (pv 1) (pv 0) (λ_ _=>rfl)))) ag)) (ae (pv 3) ag)))))))),?_⟩
  have tJ:(2 ^ 10:Nat)<2 ^ 1000:=Cp (by decide) (by decide)
  have big:(10000:Nat)<=sizeLine:=by decide
  have small:∀x:Nat,x<=1000->x<2 ^ 1000:=λx hx=>CG (show x<2 ^ 10 by omega) tJ
  refine aN λY hY=>?_
  refine⟨_,rfl,F,L,19,rfl,hf,by decide,small _ (by decide),λr H1 r1 k1 f1=>⟨_,_,rfl,rfl,?_⟩⟩
  have en:(9:Int)+(r:Int)=((9+r:Nat):Int):=by omega
  dsimp only[aJ]
  subst hY
  rw[en]
  generalize hN:9+r=n
  have n0:0<n:=by omega
  have n1:n<=27:=by omega
  refine aN λY hY=>?_
  refine⟨_,rfl,_,rfl,by omega,by omega,λM hM=>?_⟩
  have nM:=f1.iF hM
  refine dZ (λi σ H'=>∃(ps:List Addr) (mv:List (List Nat)) (v8:Option V),σ=[v8,some (.ref F),some (.int (n:Nat)),some (.int (b:Nat))]/\cm F L H1 H'/\bK H' F L/\H' M=some (.lst (ps.map V.ref))/\bY H' ps (mv.map aD)/\mv.length=i/\∀l∈mv,l.length=b/\∀x∈l,x<n)
   ⟨[],[],none,?Vb,(Same.new hM).kb2,f1.same (Same.new hM),af,.nil,rfl,λl hl=>(by cases hl)⟩ ?_ ?_
  case Vb=>rfl
  ·rintro i σ H2 hi ⟨ps,mv,v8,rfl,k2,f2,m2,pJ,lm,ok⟩
   rw[Ag] at hi
   refine⟨_,rfl,_,rfl,by omega,by omega,λC hC=>?_⟩
   have nC:=f2.iF hC
   have nMC:M≠C:=ak m2 hC
   refine dZ (λj σ H'=>∃(rs:List Nat) (v:Option V),σ=[v,some (.ref F),some (.int (n:Nat))]/\cm F L H2 H'/\bK H' F L/\H' C=some (.lst ((aD rs).map V.int))/\rs.length=j/\∀r∈rs,r<n)
    ⟨[],none,?sg,(Same.new hC).kb2,f2.same (Same.new hC),af,rfl,λr hr=>(by cases hr)⟩ ?_ ?_
   case sg=>rfl
   ·rintro j σ H3 hj ⟨rs,v,rfl,k3,f3,c3,lr,hrs⟩
    rw[Ag] at hj
    refine⟨_,rfl,_,rfl,F,L,n,rfl,f3,n0,small _ (by omega),λq H4 q1 k4 f4=>?_⟩
    refine⟨_,k4 _ _ c3 nC.1 nC.2,?_,rs++[q],_,rfl,cm.lP (k3.trans k4) hC,f4.upd nC,?_,by rw[AG,lr];rfl,λx hx=>?_⟩
    ·rw[AB,bL];omega
    ·rw[af,cL,AJ];rfl
    ·rcases Ab.mp hx with z | z
     ·exact hrs x z
     ·rw[AR.mp z];exact q1
   rintro σ H3 ⟨rs,v,rfl,k3,f3,c3,lr,hrs⟩
   rw[Ag] at lr
   have m3:=k3 _ _ m2 nM.1 nM.2
   refine⟨C,_,rfl,.inl ⟨.of c3,λD hD=>?_⟩⟩
   have sD:=Same.new (o:=.tup ((aD rs).map V.int)) hD
   have m4:=sD _ _ m3
   have Vc:bY (upd H3 D (.tup ((aD rs).map V.int))) ps (mv.map aD):=(pJ.keep (f2.ktu k3)).keep sD.kt
   have lps:ps.length=i:=by rw[AX pJ,AB,lm]
   have ktM:aW (upd H3 D (.tup ((aD rs).map V.int))) (upd (upd H3 D (.tup ((aD rs).map V.int))) M (.lst (ps.map V.ref++[.ref D]))):=aW.lst m4
   refine⟨_,m4,?_,ps++[D],mv++[rs],_,rfl,?_,?_,?_,?_,by rw[AG,lm];rfl,λl hl=>?_⟩
   ·rw[AB,lps];omega
   ·exact cm.lP ((k2.trans k3).trans sD.kb2) hM
   ·exact(f3.same sD).upd nM
   ·rw[af,AJ];rfl
   ·rw[AJ]
    exact bA (Vc.keep ktM) (.cons (ktM _ _ af) .nil)
   ·rcases Ab.mp hl with z | z
    ·exact ok l z
    ·rw[AR.mp z];exact⟨lr,hrs⟩
  rintro σ H2 ⟨ps,mv,v8,rfl,k2,f2,m2,pJ,lm,ok⟩
  rw[Ag] at lm
  have cB:Moves n b mv:=⟨lm,ok⟩
  have lps:ps.length=n:=by rw[AX pJ,AB,lm]
  refine⟨M,_,rfl,.inl ⟨.of m2,λMt Vd=>?_⟩⟩
  have zJ:=Same.new (o:=.tup (ps.map V.ref)) Vd
  have tK:(upd H2 Mt (.tup (ps.map V.ref))) Mt=some (.tup (ps.map V.ref)):=af
  have k2':=k2.trans zJ.kb2
  have mM:=f2.same zJ
  have zK:=pJ.keep zJ.kt
  generalize upd H2 Mt (.tup (ps.map V.ref))=Qb at tK k2' mM zK ⊢
  dsimp only[aJ]
  subst hY
  refine aN λW hW=>?_
  refine⟨_,rfl,Mt,rfl,⟨_,.of tK⟩,λY hY=>?_⟩
  have nY:=mM.iF hY
  refine fj (xs:=ps.map V.ref) (λj σ H'=>∃(bs:List Nat) (v:Option V),σ=[v,some (.ref F)]/\cm F L Qb H'/\bK H' F L/\H' Y=some (.lst ((aD bs).map V.int))/\bs.length=j/\∀x∈bs,x<=9)
   ⟨[],none,?sg1,(Same.new hY).kb2,mM.same (Same.new hY),af,rfl,λx hx=>(by cases hx)⟩ (λj σ H' _ ⟨_,_,_,k',_⟩=>.of (mM.ktu k' _ _ tK)) ?_ ?_
  case sg1=>rfl
  ·rintro j x σ H3 hx ⟨bs,v,rfl,k3,f3,y3,lb,hb9⟩
   have hj:j<ps.length:=by have:=(AF.mp hx).1;rwa [AB] at this
   refine⟨_,rfl,by show 2<=sizeLine;decide,λZ hZ=>?_⟩
   have sZ:=Same.new (o:=.lst [.int 2,.int 10]) hZ
   have nZ:=f3.iF hZ
   refine⟨_,rfl,F,L,2,rfl,f3.same sZ,by decide,small _ (by decide),λr2 H4 q2 k4 f4=>?_⟩
   obtain⟨d,hd,hd0,YD⟩:∃d:Nat,je ([.int 2,.int 10]:List V) (r2:Int)=some (.int (d:Nat))/\0<d/\d<=10:=by
    match r2,q2 with
    | 0,_=>exact⟨2,rfl,by decide,by decide⟩
    | 1,_=>exact⟨10,rfl,by decide,by decide⟩
   refine⟨Z,_,_,.int (d:Nat),rfl,rfl,.of (k4 _ _ af nZ.1 nZ.2),hd,F,L,d,rfl,f4,hd0,small _ (by omega),λq H5 q1 k5 f5=>?_⟩
   have k35:=(sZ.kb2.trans k4).trans k5
   refine⟨_,k35 _ _ y3 nY.1 nY.2,?_,bs++[q],_,rfl,cm.lP (k3.trans k35) hY,f5.upd nY,?_,by rw[AG,lb];rfl,λz hz=>?_⟩
   ·rw[AB,bL];omega
   ·rw[af,cL,AJ];rfl
   ·rcases Ab.mp hz with y | y
    ·exact hb9 z y
    ·rw[AR.mp y];omega
  rintro σ H3 ⟨bs,v,rfl,k3,f3,y3,lb,hb9⟩
  rw[AB,lps] at lb
  have M4:=mM.ktu k3 _ _ tK
  have pC:=zK.keep (mM.ktu k3)
  have kk:=(k1.trans k2').trans k3
  dsimp only[aJ]
  subst hW
  refine⟨_,rfl,Mt,ps,n,b,mv,rfl,M4,pC,cB,by omega,by omega,λR rs H4 hR s4 r4 lr hrs hst=>?_⟩
  have y4:=s4 _ _ y3
  refine⟨R,rfl,⟨_,.of r4⟩,λC hC=>?_⟩
  refine dn (xs:=(aD rs).map V.int) (λj σ H'=>∃(cs:List Nat) (v:Option V),σ=[v,some (.ref Y)]/\Same H4 H'/\H' C=some (.lst ((aD cs).map V.int))/\cs.length=j/\cs=(rs.take j).map λr=>bs.getD r 0)
   ⟨[],none,?sg2,Same.new hC,af,rfl,rfl⟩ (λj σ H' _ ⟨_,_,_,s',_⟩=>.of (s' _ _ r4)) ?_ ?_
  case sg2=>rfl
  ·rintro j x σ H5 hx ⟨cs,v,rfl,s5,c5,lc,pK⟩
   obtain⟨q,rfl,eq⟩:=uh hx
   have hq:=hrs q (AL eq)
   have hj:j<rs.length:=(AF.mp eq).1
   refine⟨_,rfl,_,rfl,Y,_,_,.int (bs.getD q 0:Nat),rfl,rfl,.of (s5 _ _ y4),au (cU (by omega)),_,c5,?_,cs++[bs.getD q 0],_,rfl,s5.kbn hC KB.write,?_,by rw[AG,lc];rfl,?_⟩
   ·rw[AB,bL];omega
   ·rw[af,cL,AJ];rfl
   ·rw[take_snoc eq,AJ,<-pK];rfl
  rintro σ H5 ⟨cs,v,rfl,s5,c5,lc,pK⟩
  rw[AB,bL,lr] at lc
  rw[AB,bL,Ax] at pK
  have M5:∀r,r<n->cs.getD r 0=bs.getD (rs.getD r 0) 0:=λr hr=>by
   rw[pK,BV,AW,item_at 0 (by omega:r<rs.length)];rfl
  refine⟨C,_,rfl,.inl ⟨.of c5,λD hD=>?_⟩⟩
  have sD:=Same.new (o:=.tup ((aD cs).map V.int)) hD
  have Ve:=(s4.trans s5).trans sD
  refine⟨_,rfl,by show 2<=sizeLine;decide,λra hra=>?_⟩
  have M6:=Same.new (o:=.tup [.ref D,.ref Mt]) hra
  have df:=Ve.trans M6
  refine k ra cs mv n _ (kk.trans df.kb2) (f3.same df) ⟨D,Mt,ps,af,M6 _ _ af,df _ _ M4,pC.keep df.kt⟩ lc n0 n1 cB (λx hx=>?_) (λr hr=>by rw[M5 _ (cB.stp hr (by omega)),M5 _ hr,hst r hr])
  rw[pK] at hx
  obtain⟨r,hr',rfl⟩:=A1.mp hx
  have:=hrs r hr'
  exact hb9 _ (AL (item_at 0 (show r<bs.length by omega)))
def Vf:Sp:=λvs H Q _=>∃(b n r c:Nat) (ra:Addr) (sg:List Nat) (mv:List (List Nat)),vs=[.int b,.ref ra,.int r,.int c]/\2<=b/\b<=4/\jD H ra sg mv/\Moves n b mv/\r<n/\Q (.int (run mv r ((eG b c).map EX):Nat)) H
theorem pL:aO ["_law_base","_law_row_here","_law_room","_law_number"] ["_law_base","_law_row_here","_law_room","_law_number"] (ah iT):=⟨rfl,rfl,rfl,by decide+kernel,rfl,by decide+kernel,by decide+kernel⟩
theorem M8{a:bR}(T:Txt K mg a):aR P w K mg base bj 1 a.nz a.o3 ["_law_base","_law_row_here","_law_room","_law_number"] Vf:=by
 refine T.Ox.ok pL (λvs H Q E h=>?_) (λcdv A outer s H vs Q E hr h=>?_)
 ·obtain⟨b,n,r,c,ra,sg,mv,rfl,_⟩:=h
  rfl
 ·obtain⟨b,n,r,c,ra,sg,mv,rfl,hb2,hb4,⟨sa,ma,ps,e1,e2,e3,tp⟩,cB,hr',k⟩:=h
  refine⟨_,(ai (fN A0 (bx pS (pv 3) aj (bD _))
   (ai (ay (i:=2) pL.nd rfl (Ad rfl) (aB (ax K) (aB (ax K) (aB (ax K) (pv 1) aj (λ_ _=>rfl)) (pv 2) (λ_ _=>rfl)) (aV dQ (pv 3) (pv 0)) (λ_ _=>rfl)))
   (av (ay (i:=3) pL.nd rfl (Ad rfl) (aV iN (pv 3) (pv 0))))))
  (av (aQ (pv 2)))),?_⟩
  have lg:((b:Nat):Int).natAbs.log2<9000:=by
   rw[DC]
   exact A7 (Fp b) (by omega)
  refine aN λY hY=>?_
  refine p7 (λm σ H'=>∃r' c':Nat,c'=m/\σ=[some (.int (b:Nat)),some (.ref ra),some (.int (r':Nat)),some (.int (c':Nat))]/\H'=H/\r'<n/\run mv r' ((eG b c').map EX)=run mv r ((eG b c).map EX))
   ⟨_,r,c,rfl,rfl,rfl,hr',rfl⟩ ?_ ?_
  ·rintro m σ H1 N hN ⟨r',c',rfl,rfl,rfl,hr1,e⟩
   refine⟨_,rfl,_,_,rfl,rfl,_,rfl,?_⟩
   by_cases hc:0<c'
   ·refine cW (λ_=>?_) (λz=>absurd (decide_eq_true (show(0:Int)<(c':Int) by omega)) z)
    obtain⟨q1,q2,q3⟩:=cB.row tp hr1
    have hm:c' % b<b:=D4 _ (by omega)
    refine⟨_,rfl,ra,_,_,.ref ma,rfl,rfl,.of e1,au (j:=1) rfl,_,rfl,ma,_,_,.ref (ps.getD r' 0),rfl,rfl,.of e3,au (by rw[AW,q1];rfl),_,rfl,_,rfl,_,_,rfl,rfl,by show(0:Int)<_;omega,ps.getD r' 0,_,_,.int (stp mv r' (c' % b):Nat),rfl,?_,.of q2,au (j:=c' % b) (cU (by rw[q3];exact hm)),?_⟩
    ·show V.int ((c':Int) % (b:Int))=V.int ((c' % b:Nat):Int)
     rw[Dd]
    dsimp only[aJ]
    refine⟨_,rfl,_,rfl,_,_,rfl,rfl,⟨by omega,lg⟩,hN _ _ (c' / b) (Ep hc (by omega)) ⟨stp mv r' (c' % b),c' / b,rfl,?_,rfl,cB.stp hr1 hm,?_⟩⟩
    ·rw[C7];rfl
    ·rw[<-e,nB hb2 hc,Ap]
     rfl
   ·refine cW (λz=>absurd (of_decide_eq_true z) (show ¬(0:Int)<(c':Int) by omega)) (λ_=>?_)
    have:c'=0:=by omega
    subst this
    subst hY
    rw[jo] at e
    refine⟨_,rfl,?_⟩
    rw[<-e] at k
    exact k
  ·rintro σ H Q Q' h ⟨v,e1,i,j,e2,e3,b',e4,z⟩
   exact⟨v,e1,i,j,e2,e3,b',e4,h _ _ z⟩
section
variable{X:Cx}{pos:Pos}{name:Str}{params:CP}{body:List Stmt}{scope:Scope}{c T:Addr}{clos:List (Str×Addr)}{L:List (Pos×Str)}
theorem RW{i:Nat}(hN:X.N.Nodup)(hi:X.N[i]? =some name)(hx:Loc X.env.scope name)(hcode:X.env.code=.ref c)(hC:B4 X.K c T=true)(hB:fq X.mg X.base)(hcl:E7 scope X.env=pure clos)(hd0:params.defaults=[])(hk0:params.kw_defaults=[])(ha:annTrees params none X.env=[])
  (hL:(pos,DX X.env name name)∈L) (ap:Apart L) (hf:X.fn name=true∨X.env.scope.names.lookup name=some .local:=by first | exact .inl rfl | exact .inr rfl | assumption):
  PS X (.FunctionDef name params body [] none [] scope none name pos) (T4 X name params body scope clos T L i):=λpins s σ H D I h=>T5 hN hi hx hcode (B9 I.ok.mod.oC hC) hB hcl hd0 hk0 ha hL ap hf pins s σ H D I h
end
theorem zL:∀{qs:List (Str×Int)},(qs.map (·.1)).Nodup->(qs.map (·.1)).map (λn=>fG n qs 0)=qs.map (·.2)
 | [],_=>rfl
 | q::qs,nd=>by
  rw[Ap] at nd
  obtain⟨n1,n2⟩:=B_.mp nd
  rw[Ap,Ap,Ap]
  have h1:fG q.1 (q::qs) 0=q.2:=by
   show fG q.1 qs (if q.1=q.1 then q.2 else 0)=q.2
   rw[if_pos rfl]
   have:∀{ps:List (Str×Int)} {d:Int},q.1 ∉ ps.map (·.1)->fG q.1 ps d=d:=by
    intro ps
    induction ps with
    | nil=>intro d _;rfl
    | cons p ps ih=>
     intro d h
     rw[Ap,Ac,not_or] at h
     show fG q.1 ps (if q.1=p.1 then p.2 else d)=d
     rw[if_neg h.1]
     exact ih h.2
   exact this n1
  rw[h1,<-zL n2]
  congr 1
  refine Dm λn hn=>?_
  have ne:n≠q.1:=λz=>n1 (z▸hn)
  show fG n qs (if n=q.1 then q.2 else 0)=fG n qs 0
  rw[if_neg ne]
def Xk(a:bR):Sp:=λvs H Q _=>∃(b n B most c:Nat) (ra ta:Addr) (t:Term) (sn:Int) (sg:List Nat) (mv:List (List Nat)),vs=[.int b,.ref ra,.ref ta,.int sn,.int most]/\2<=b/\b<=4/\jD H ra sg mv/\sg.length=n/\0<n/\Moves n b mv/\f_ H ta t/\t.parts.length<=4/\(t.parts.map (·.1)).Nodup/\t.num=(c:Int)/\c<=B/\(∀z∈cA b ((t.parts.map (·.1)).map t.at),0<=z/\z<=(B:Int))/\B<2 ^ 20000/\1<=most/\most<=10000/\TB a H/\
 (∀(xs:List (List Nat)) (H':Hp),KX a H H'->TB a H'->xs.Nodup->(∀p∈xs,∃w,dJ (b ^ (t.parts.map (·.1)).length) w/\p=fz (tF b mv t (t.parts.map (·.1))) [0,c] w)->most<xs.length->Q .non H')/\
 ∀(p N Yy va:Addr) (ps:List Addr) (xs mw:List (List Nat)) (H':Hp),KX a H H'->TB a H'->H' p=some (.tup [.ref N,.ref Yy,.ref va])->H' N=some (.tup ((t.parts.map (·.1)).map V.str))->H' Yy=some (.tup ((xs.map (kq b sg mv sn)).map V.bl))->H' va=some (.tup (ps.map V.ref))->bY H' ps (mw.map aD)->mw.length=xs.length->xs.length<=most->cn [0,c] (tF b mv t (t.parts.map (·.1))) (b ^ (t.parts.map (·.1)).length) xs mw->Q (.ref p) H'
theorem g9:aO ["_law_base","_law_row_here","_law_term_here","_law_sign","_law_most","_law_names_here","_law_times","_law_sums","_law_onward","_law_told","_law_yes"] ["_law_base","_law_row_here","_law_term_here","_law_sign","_law_most"] (ah dv):=⟨rfl,rfl,rfl,by decide+kernel,rfl,by decide+kernel,by decide+kernel⟩
set_option maxHeartbeats 32000000 in
theorem OZ{a:bR}(T:Txt K mg a)(hB:fq mg base):aR P w K mg base bj 3 a.p9 a.qQ ["_law_base","_law_row_here","_law_term_here","_law_sign","_law_most"] (Xk a):=by
 have Hz:=zb (P:=P) (w:=w) (base:=base) T
 have O_:=M8 (P:=P) (w:=w) (base:=base) T
 refine T.RE.ok g9 (λvs H Q E h=>?_) (λAr outer s H vs Q E hr h=>?_)
 ·obtain⟨b,n,B,most,c,ra,ta,t,sn,sg,mv,rfl,_⟩:=h
  rfl
 ·obtain⟨b,n,B,most,cc,ra,ta,t,sn,sg,mv,rfl,hb2,hb4,OW,P9,n0,cB,et,lt,ndp,hnum,hcB,oy,hB2,hm1,hm2,tb,q0,q⟩:=h
  have zM:aP 1 _:=hr.mono (by decide)
  have M9:aP 1 _:=hr.mono (by decide)
  refine⟨_,(ai (ay (i:=5) g9.nd rfl (Ad rfl) (bF (bG K) (by rfl) T.b_ bS (ae (bN (aG.mk' (esc:=ah dv) (N:=["_law_base","_law_row_here","_law_term_here","_law_sign","_law_most","_law_names_here","_law_times","_law_sums","_law_onward","_law_told","_law_yes"]) (own:=["_law_name","_law_many"]) (aI:=[]) (bJ:=[]) rfl rfl (by decide+kernel)) rfl (fO (aB (ax K) (pv 2) aj (λ_ _=>rfl))) (λ_ _ _ _=>(md K (n:=2) rfl (cD (aH (i:=0) (show A3 (["_law_name","_law_many"]:List Str) by decide+kernel) rfl (Ad rfl)) (cD (aH (i:=1) (show A3 (["_law_name","_law_many"]:List Str) by decide+kernel) rfl (Ad rfl)) iJ)))) (λ_ _ _ _=>a_) (λ_ _ _ _=>(pv 0))) ag)))
  (ai (ay (i:=6) g9.nd rfl (DK rfl) (bN (aG.mk' (esc:=ah dv) (N:=["_law_base","_law_row_here","_law_term_here","_law_sign","_law_most","_law_names_here","_law_times","_law_sums","_law_onward","_law_told","_law_yes"]) (own:=["_law_name","_law_many"]) (aI:=[]) (bJ:=[]) rfl rfl (by decide+kernel)) rfl (fO (aB (ax K) (pv 2) aj (λ_ _=>rfl))) (λ_ _ _ _=>(md K (n:=2) rfl (cD (aH (i:=0) (show A3 (["_law_name","_law_many"]:List Str) by decide+kernel) rfl (Ad rfl)) (cD (aH (i:=1) (show A3 (["_law_name","_law_many"]:List Str) by decide+kernel) rfl (Ad rfl)) iJ)))) (λ_ _ _ _=>a_) (λ_ _ _ _=>(pv 1))))
  (ai (ay (i:=7) g9.nd rfl (DK rfl) (bN (aG.mk' (esc:=ah dv) (N:=["_law_base","_law_row_here","_law_term_here","_law_sign","_law_most","_law_names_here","_law_times","_law_sums","_law_onward","_law_told","_law_yes"]) (own:=["_law_letter"]) (aI:=["_law_times"]) (bJ:=[6]) rfl rfl (by decide+kernel)) rfl (cH (aA Hz zM rfl T.Hq T.Hr T.Hs .nil aK (ae (pv 0) (ae (aL (bu K) (by rfl) T.cF bW (ae (pv 5) ag)) ag)))) (λ_ _ _ _=>(aH (i:=0) (show A3 (["_law_letter","_law_times"]:List Str) by decide+kernel) rfl (Ad rfl))) (λ_ _ _ _=>a_) (λ_ _ _ _=>(aL (vb K) (by rfl) T.PQ La (ae (bN (aG.mk' (esc:=_) (N:=["_law_letter","_law_times"]) (own:=["_law_figure","_law_many"]) (aI:=[]) (bJ:=[]) rfl rfl (by rfl)) rfl (Ob K (by rfl) T.Kc (ae (pv 0) (ae (pv 1) ag))) (λ_ _ _ _=>(md K (n:=2) rfl (cD (aH (i:=0) (show A3 (["_law_figure","_law_many"]:List Str) by decide+kernel) rfl (Ad rfl)) (cD (aH (i:=1) (show A3 (["_law_figure","_law_many"]:List Str) by decide+kernel) rfl (Ad rfl)) iJ)))) (λ_ _ _ _=>a_) (λ_ _ _ _=>(aV jd (pv 0) (pv 1)))) ag)))))
  (ai (RW (i:=8) (T:=a.fJ) (L:=U5) g9.nd rfl (Ad rfl) rfl T.RF hB rfl rfl rfl rfl (AZ) (apart1 _))
  (ai (ay (i:=9) g9.nd rfl (Ad rfl) (x4 (k:=2) (λ_=>rfl) hr rfl T.Mf T.Mg T.Mh (ae (bf (ae aj (ae (aB (ax K) (pv 2) aj (λ_ _=>rfl)) ag))) (ae (aL (bu K) (by rfl) T.cF bW (ae (pv 7) ag)) (ae (pv 8) (ae (pv 4) ag))))))
  (ai (dN (bx oK (pv 9) ie (bD _))
   (av (aQ ie))
   cp)
  (ai (gc (i:=10) (aG.mk' (esc:=ah dv) (N:=["_law_base","_law_row_here","_law_term_here","_law_sign","_law_most","_law_names_here","_law_times","_law_sums","_law_onward","_law_told","_law_yes"]) (own:=["_law_room"]) (aI:=["_law_sign","_law_row_here","_law_base"]) (bJ:=[3,1,0]) rfl rfl (by decide+kernel)) rfl (cH (aB (ax K) (pv 9) aj (λ_ _=>rfl))) (λ_ _ _ _=>(aH (i:=0) (show A3 (["_law_room","_law_sign","_law_row_here","_law_base"]:List Str) by decide+kernel) rfl (Ad rfl))) (λ_ _ _ _=>a_) (λ_ _ _ _=>(jQ ij (aB (ax K) (aB (ax K) (pv 2) aj (λ_ _=>rfl)) (aA O_ M9 rfl T.Oy T.Oz T.OA .nil aK (ae (pv 3) (ae (pv 2) (ae (aB (ax K) (pv 0) aj (λ_ _=>rfl)) (ae (aB (ax K) (pv 0) aj (λ_ _=>rfl)) ag))))) (λ_ _=>rfl)) (pv 1) (bD _))) g9.nd rfl rfl)
  (av (aQ (bf (ae (pv 5) (ae (bF (bG K) (by rfl) T.b_ bS (ae (pv 10) ag)) (ae (aB (ax K) (pv 9) aj (λ_ _=>rfl)) ag))))))))))))),?_⟩
  have big:(10000:Nat)<=sizeLine:=by decide
  have hb0:0<b:=by omega
  have lg:((b:Nat):Int).natAbs.log2<9000:=by
   rw[DC]
   exact A7 (Fp b) (by omega)
  obtain⟨kr,tps,a1,a2,a3⟩:=id et
  have YE:tps.length=t.parts.length:=AX a3
  refine aN λY hY=>?_
  refine⟨_,rfl,ta,_,_,.ref kr,rfl,rfl,.of a1,au (j:=1) rfl,kr,rfl,⟨_,.of a2⟩,λC hC=>?_⟩
  refine fj (xs:=tps.map V.ref) (λi σ H'=>∃v1 v2:Option V,σ=[v1,v2]/\Same H H'/\H' C=some (.lst (((t.parts.take i).map (·.1)).map V.str)))
   ⟨none,none,?sg,Same.new hC,af⟩ (λi σ H' _ ⟨_,_,_,s',_⟩=>.of (s' _ _ a2)) ?_ ?_
  case sg=>rfl
  ·rintro i x σ H1 hx ⟨v1,v2,rfl,s1,c1⟩
   obtain⟨p,rfl,ep⟩:=jS hx
   have hi:=(AF.mp ep).1
   obtain⟨qq,hq,Vg⟩:=dj a3 ep
   refine⟨p,_,rfl,.of (s1 _ _ Vg),rfl,_,_,rfl,_,_,rfl,rfl,?_⟩
   refine⟨_,rfl,_,c1,?_,_,_,rfl,s1.kbn hC KB.write,?_⟩
   ·rw[AB,AB,Ao];omega
   ·rw[af,take_snoc hq,AJ,AJ];rfl
  rintro σ H1 ⟨v1,v2,rfl,s1,c1⟩
  rw[AB,YE,Ax] at c1
  refine⟨C,_,rfl,.inl ⟨.of c1,λnm hnm=>?_⟩⟩
  have sN:=Same.new (o:=.tup ((t.parts.map (·.1)).map V.str)) hnm
  have en:(upd H1 nm (.tup ((t.parts.map (·.1)).map V.str))) nm=some (.tup ((t.parts.map (·.1)).map V.str)):=af
  have s1':=s1.trans sN
  generalize upd H1 nm (.tup ((t.parts.map (·.1)).map V.str))=H1' at s1' en ⊢
  have a1':=s1' _ _ a1
  have YF:=s1' _ _ a2
  dsimp only[aJ]
  subst hY
  refine aN λY hY=>?_
  refine⟨_,rfl,ta,_,_,.ref kr,rfl,rfl,.of a1',au (j:=1) rfl,kr,rfl,⟨_,.of YF⟩,λTm hTm=>?_⟩
  refine fj (xs:=tps.map V.ref) (λi σ H'=>∃v1 v2:Option V,σ=[v1,v2]/\Same H1' H'/\H' Tm=some (.lst (((t.parts.take i).map (·.2)).map V.int)))
   ⟨none,none,?sg5,Same.new hTm,af⟩ (λi σ H' _ ⟨_,_,_,s',_⟩=>.of (s' _ _ YF)) ?_ ?_
  case sg5=>rfl
  ·rintro i x σ H2 hx ⟨v1,v2,rfl,s2,c2⟩
   obtain⟨p,rfl,ep⟩:=jS hx
   have hi:=(AF.mp ep).1
   obtain⟨qq,hq,Vg⟩:=dj a3 ep
   refine⟨p,_,rfl,.of (s2 _ _ (s1' _ _ Vg)),rfl,_,_,rfl,_,_,rfl,rfl,?_⟩
   refine⟨_,rfl,_,c2,?_,_,_,rfl,s2.kbn hTm KB.write,?_⟩
   ·rw[AB,AB,Ao];omega
   ·rw[af,take_snoc hq,AJ,AJ];rfl
  rintro σ Qb ⟨v1,v2,rfl,s2',c2'⟩
  rw[AB,YE,Ax] at c2'
  have YG:(t.parts.map (·.2)).length=t.parts.length:=AB _
  have lk:t.parts.length<=4:=lt
  dsimp only[aJ]
  subst hY
  refine aN λY hY=>?_
  refine⟨_,rfl,_,rfl,.ref nm,t.parts.length,rfl,.inr ⟨_,.of (s2' _ _ en),by rw[AB,AB]⟩,b,t.parts.length,rfl,hb4,lk,λDl pl H2 hDl s2 d2 tp=>?_⟩
  have c2:=s2 _ _ c2'
  have hpl:pl.length<=256:=by rw[AX tp,fA];exact d4 hb4 lk
  refine⟨Dl,rfl,⟨_,.of d2⟩,λS hS=>?_⟩
  refine dn (xs:=pl.map V.ref) (λi σ H'=>∃v:Option V,σ=[v,some (.ref Tm)]/\Same H2 H'/\H' S=some (.lst ((((lets b t.parts.length).take i).map λl=>dot l (t.parts.map (·.2))).map V.int)))
   ⟨none,?sg2,Same.new hS,af⟩ (λi σ H' _ ⟨_,_,s',_⟩=>.of (s' _ _ d2)) ?_ ?_
  case sg2=>rfl
  ·rintro i x σ H3 hx ⟨v,rfl,s3,c3⟩
   obtain⟨p,rfl,ep⟩:=jS hx
   obtain⟨l,el,hl⟩:=tp.get ep
   have hm:=AL el
   have hi:=(AF.mp ep).1
   have hll:l.length=(t.parts.map (·.2)).length:=by rw[YG];exact kf b _ l hm
   have el3:=s3 _ _ hl
   have YH:=s3 _ _ c2
   refine⟨_,rfl,_,rfl,p,Tm,rfl,⟨_,.of el3⟩,⟨_,.of YH⟩,λC2 YI=>?_⟩
   refine vA (xs:=l.map V.int) (ys:=((t.parts.map (·.2)).map V.int)) (λi σ H'=>∃v1 v2:Option V,σ=[v1,v2]/\Same H3 H'/\H' C2=some (.lst ((Ew (· * ·) (l.take i) ((t.parts.map (·.2)).take i)).map V.int))) (by rw[AB,AB];exact hll)
    ⟨none,none,?sg3,Same.new YI,af⟩ (λi σ H' _ ⟨_,_,_,s',_⟩=>⟨.of (s' _ _ el3),.of (s' _ _ YH)⟩) ?_ ?_
   case sg3=>rfl
   ·rintro i y z p2 σ H4 hy hz ⟨v1,v2,rfl,s4,c4⟩ hp
    obtain⟨y,rfl,ey⟩:=iO hy
    obtain⟨z,rfl,ez⟩:=iO hz
    have hb:=qe b _ l hm y (AL ey)
    have sp:=Same.new (o:=.tup [.int y,.int z]) hp
    have hi:=(AF.mp ey).1
    refine⟨p2,_,rfl,.of af,rfl,_,_,rfl,_,_,rfl,rfl,?_⟩
    refine⟨_,rfl,_,rfl,_,_,rfl,rfl,.inl ⟨by omega,by omega⟩,_,sp _ _ c4,?_,_,_,rfl,(s4.trans sp).kbn YI KB.write,?_⟩
    ·rw[AB,G8,Ao,Ao];omega
    ·rw[af,Jk ey ez,AJ];rfl
   rintro σ H4 ⟨v1,v2,rfl,s4,c4⟩
   rw[AB,Ax,hll,Ax] at c4
   refine⟨C2,_,rfl,.of c4,?_⟩
   rw[um]
   refine⟨_,s4 _ _ c3,?_,_,rfl,(s3.trans s4).kbn hS KB.write,?_⟩
   ·rw[AB,AB,Ao];omega
   ·rw[af,take_snoc el,AJ,AJ];rfl
  rintro σ H3 ⟨v,rfl,s3,c3⟩
  have eds:(t.parts.map (·.1)).map t.at=t.parts.map (·.2):=zL ndp
  rw[AB,AX tp,Ax,show((lets b t.parts.length).map λl=>dot l (t.parts.map (·.2)))=cA b ((t.parts.map (·.1)).map t.at) by rw[eds];unfold cA;rw[YG]] at c3
  have Jn:(cA b ((t.parts.map (·.1)).map t.at)).length=b ^ (t.parts.map (·.1)).length:=by rw[vS,AB]
  have Qd:=(s1'.trans s2').trans (s2.trans s3)
  have zD:=tb.same Qd
  have en3:=(s2'.trans (s2.trans s3)) _ _ en
  have vM:gn ra S ta sg mv (cA b ((t.parts.map (·.1)).map t.at)) [.int t.num,.ref kr] H3:=⟨OW.keep Qd.kt,c3,Qd _ _ a1⟩
  dsimp only[aJ]
  subst hY
  refine aN λY hY=>?_
  generalize Vh:cA b ((t.parts.map (·.1)).map t.at)=su at vM Jn oy
  refine⟨zD.du,λf c' ctv doc H4 hf ef ec ZZ YJ=>?_⟩
  have k4:KX a H3 H4:=KX.kb zD.du YJ
  have tL:TB a H4:=zD.kdu T YJ ZZ
  have YK:=vM.kx k4
  have kA:KX a H H4:=(KX.same Qd).trans k4
  have M':=k4.kt _ _ en3
  dsimp only
  subst hY
  refine aN λY hY=>?_
  refine⟨_,rfl,ta,_,_,.int t.num,rfl,rfl,.of YK.y,au (j:=0) rfl,by show 2<=sizeLine;decide,λz hz=>?_⟩
  have sz:=Same.new (o:=.tup [.int 0,.int t.num]) hz
  have ez:(upd H4 z (.tup [.int 0,.int t.num])) z=some (.tup [.int 0,.int t.num]):=af
  have Qe:=YK.same sz
  have M1:=tL.same sz
  have Vi:=sz _ _ ef
  have Vj:=sz _ _ ec
  have YL:=sz _ _ M'
  have kB:KX a H (upd H4 z (.tup [.int 0,.int t.num])):=kA.trans (KX.same sz)
  generalize upd H4 z (.tup [.int 0,.int t.num])=H5 at ez Qe M1 Vi Vj YL kB ⊢
  refine⟨_,rfl,.ref S,b ^ (t.parts.map (·.1)).length,rfl,.inl ⟨_,.of Qe.s,by rw[<-Jn];exact(AB _).symm⟩,_,rfl,_,rfl,?_⟩
  have hD:∀x∈[f,c'],∃φ,H5 x=some (.ext φ):=λx hx=>by
   simp only[Ac,CD,or_false] at hx
   rcases hx with z | z<;>subst z
   ·exact⟨_,Vi⟩
   ·exact⟨_,Vj⟩
  refine⟨[f,c'],hD,λbase' W'=>?_⟩
  have F1:FnAt P w K mg base' 1 f 2 (ui (qM.toS P w) (b ^ (t.parts.map (·.1)).length) (Jm b mv su) (pG n B) (gn ra S ta sg mv su [.int t.num,.ref kr])):=by
   refine FnAt.Xa (k:=0) W' Vi (by simp) Vj (by simp) (ps:=["_law_room","_law_k"]) (aI:=["_law_base","_law_row_here","_law_sums"]) (ls:=["_law_total"]) (fvs:=[.int (b:Nat),.ref ra,.ref S]) ⟨rfl,rfl,rfl,by decide+kernel,by decide+kernel,by decide+kernel,by decide+kernel,by decide+kernel⟩
    (Az.mpr ⟨rfl,Az.mpr ⟨rfl,Az.mpr ⟨rfl,λ_ h=>nomatch h⟩⟩⟩) (.cons ⟨0,rfl,rfl,rfl,rfl⟩ (.cons ⟨1,rfl,rfl,rfl,rfl⟩ (.cons ⟨7,rfl,rfl,rfl,rfl⟩ .nil))) (λus hl=>match us,hl with | [_,_],_=>rfl) (λvs H Q E h=>?_) (λA outer s H vs Q E hr h=>?_)
   ·obtain⟨x,v,c,rfl,_⟩:=h
    rfl
   ·obtain⟨p0,vv,c,rfl,⟨pp,rfl,ep⟩,⟨r,c0,rfl,hr',hc0⟩,hc,ev,kk⟩:=h
    have Na:(["_law_room","_law_k","_law_base","_law_row_here","_law_sums","_law_total"]:List Str).Nodup:=by decide+kernel
    have M3:su[c]? =some (su.getD c 0):=item_at 0 (by rw[Jn];exact hc)
    have hn0:=(oy _ (AL M3)).1
    have eat:je (su.map V.int) (c:Int)=some (.int (su.getD c 0)):=au (by rw[AW,M3];rfl)
    obtain⟨Qg,ma,ps,r1,r2,r3,r4⟩:=ev.il
    obtain⟨q1,q2,q3⟩:=cB.row r4 hr'
    have ep':H pp=some (.tup [.int (r:Nat),.int (c0:Nat)]):=ep
    refine⟨_,ai (ay (i:=5) Na rfl (Ad rfl) (aV dX (aB (ax K) (pv 0) aj (λ_ _=>rfl)) (aB (cP K) (pv 4) (pv 1) (λ_ _=>rfl))))
     (av (aQ (bf (ae (aB (ax K) (aB (ax K) (aB (ax K) (pv 3) aj (λ_ _=>rfl)) (aB (ax K) (pv 0) aj (λ_ _=>rfl)) (λ_ _=>rfl)) (aV dQ (pv 5) (pv 2)) (λ_ _=>rfl)) (ae (aV iN (pv 5) (pv 2)) ag))))),?_⟩
    have ec':((c0:Nat):Int)+su.getD c 0=((c0+(su.getD c 0).toNat:Nat):Int):=by omega
    refine⟨_,rfl,pp,_,_,.int (c0:Nat),rfl,rfl,.of ep',au (j:=1) rfl,_,rfl,_,rfl,S,_,_,_,rfl,rfl,.of ev.s,eat,_,_,rfl,rfl,?_⟩
    dsimp only[aJ]
    rw[ec']
    have hm:(c0+(su.getD c 0).toNat) % b<b:=D4 _ (by omega)
    refine⟨_,rfl,ra,_,_,.ref ma,rfl,rfl,.of r1,au (j:=1) rfl,_,rfl,pp,_,_,.int (r:Nat),rfl,rfl,.of ep',au (j:=0) rfl,ma,_,_,.ref (ps.getD r 0),rfl,rfl,.of r3,au (by rw[AW,q1];rfl),_,rfl,_,rfl,_,_,rfl,rfl,by show(0:Int)<_;omega,ps.getD r 0,_,_,.int (stp mv r ((c0+(su.getD c 0).toNat) % b):Nat),rfl,?_,.of q2,au (j:=(c0+(su.getD c 0).toNat) % b) (cU (by rw[q3];exact hm)),_,rfl,_,rfl,_,_,rfl,rfl,⟨by omega,lg⟩,by show 2<=sizeLine;decide,λp hp=>?_⟩
    ·show V.int (((c0+(su.getD c 0).toNat:Nat):Int) % (b:Int))=V.int (((c0+(su.getD c 0).toNat) % b:Nat):Int)
     rw[Dd]
    ·refine kk _ _ (Same.new hp) ⟨p,rfl,?_⟩
     rw[af]
     show some (HO.tup [V.int (stp mv r ((c0+(su.getD c 0).toNat) % b):Nat),V.int (((c0+(su.getD c 0).toNat:Nat):Int) / (b:Int))])=some (HO.tup [V.int ((stp mv r ((c0+(su.getD c 0).toNat) % b):Nat):Int),V.int (((c0+(su.getD c 0).toNat) / b:Nat):Int)])
     rw[C7]
  have ktu:aW H5 (dk [f,c'] H5):=λb xs z=>m7 hD z (λ_ y=>nomatch y)
  have hB4:b ^ (t.parts.map (·.1)).length<=256:=d4 hb4 (by rw[AB];exact lk)
  refine⟨_,Kf (k:=1) T (qM.toS P w) F1 (λ_ _ h _=>zC hb2 cB (λz hz=>(oy z hz).2) h _) (λH H' e s=>e.same s),?_⟩
  refine⟨[0,cc],.ref z,most,rfl,⟨z,rfl,by rw[ktu _ _ ez,hnum];rfl⟩,⟨0,cc,rfl,n0,hcB⟩,Qe.dk hD,hm1,hm2,by omega,λxs H6 s6 Na Qh P2 n6=>?_,λxs mw vs p Rr va ps' H6 s6 hRr hl hle gr ep eR rp eva tp6 n6=>?_⟩
  ·have s7:=kT s6
   generalize gY [f,c'] H5 H6=H7 at s7 ⊢
   dsimp only[aJ]
   subst hY
   refine⟨_,rfl,rfl,_,rfl,?_⟩
   refine cW (λ_=>?_) (λz=>absurd rfl z)
   exact q0 xs H7 (kB.trans (KX.same s7)) (M1.same s7) Na (by rw[<-Vh] at Qh;exact Qh) P2
  have s7:=kT s6
  have o6:∀{b:Addr} {o:HO},H6 b=some o->gY [f,c'] H5 H6 b=some o:=λ{b o} e=>by
   rw[eB λz=>?_]
   ·exact e
   ·rw[n6 b z] at e;cases e
  have mG:aW H6 (gY [f,c'] H5 H6):=λb xs z=>o6 z
  have Vk:=o6 ep
  have iH:=o6 eR
  have YM:=o6 eva
  have YN:=tp6.keep mG
  have y8:=rp.keep mG
  generalize gY [f,c'] H5 H6=H7 at s7 Vk iH YM YN y8 ⊢
  have I0:vs.length=xs.length:=AX y8
  have okx:∀p∈xs,pG n B p:=λp hp=>by
   obtain⟨w',_,rfl⟩:=gr.reach p hp
   have:∀(w:List Nat) (r:List Nat),pG n B r->pG n B (fz (Jm b mv su) r w):=by
    intro w
    induction w with
    | nil=>intro r h;exact h
    | cons c w ih=>intro r h;exact ih _ (zC hb2 cB (λz hz=>(oy z hz).2) h _)
   exact this w' _ ⟨0,cc,rfl,n0,hcB⟩
  rw[<-Vh] at gr
  have rw7:=(Qe.same s7).il
  have en7:=s7 _ _ YL
  dsimp only[aJ]
  subst hY
  refine aN λY hY=>?_
  refine⟨_,rfl,rfl,_,rfl,?_⟩
  refine cW (λz=>absurd z (by simp)) (λ_=>?_)
  dsimp only[jH]
  subst hY
  refine aN λY hY=>?_
  refine⟨_,rfl,p,_,_,.ref Rr,rfl,rfl,.of Vk,au (j:=0) rfl,Rr,rfl,⟨_,.of iH⟩,λC3 YO=>?_⟩
  refine dn (xs:=vs) (λi σ H'=>∃v0:Option V,σ=v0::[some (.int sn),some (.ref ra),some (.int (b:Nat))]/\Same H7 H'/\H' C3=some (.lst (((xs.take i).map (kq b sg mv sn)).map V.bl)))
   ⟨none,?sg6,Same.new YO,af⟩ (λi σ H' _ ⟨_,_,s,_⟩=>.of (s _ _ iH)) ?_ ?_
  case sg6=>rfl
  ·rintro i y σ H8 hy ⟨v0,rfl,s8,c8⟩
   obtain⟨pr,hpr,pp,rfl,epp⟩:=dj y8 hy
   have hi:=(AF.mp hpr).1
   obtain⟨r,c0,rfl,hr',hc0⟩:=okx pr (AL hpr)
   have Vl:H8 pp=some (.tup [.int (r:Nat),.int (c0:Nat)]):=s8 _ _ epp
   have rw8:=rw7.keep s8.kt
   obtain⟨Qg,ma,ps,r1,r2,r3,r4⟩:=rw8
   have hg:run mv r ((eG b c0).map EX)<sg.length:=by rw[P9,<-zv];exact tD cB _ r hr' (rA hb2 c0)
   refine⟨_,rfl,ra,_,_,.ref Qg,rfl,rfl,.of r1,au (j:=0) rfl,_,rfl,_,rfl,_,rfl,pp,_,_,.int (r:Nat),rfl,rfl,.of Vl,au (j:=0) rfl,_,rfl,pp,_,_,.int (c0:Nat),rfl,rfl,.of Vl,au (j:=1) rfl,b,n,r,c0,ra,sg,mv,rfl,hb2,hb4,⟨Qg,ma,ps,r1,r2,r3,r4⟩,cB,hr',Qg,_,_,.int (rn b sg mv r c0:Nat),rfl,rfl,.of r2,au (cU hg),_,rfl,rfl,?_⟩
   refine⟨_,c8,by rw[AB,AB,Ao];omega,_,rfl,s8.kbn YO KB.write,?_⟩
   rw[af,take_snoc hpr,AJ,AJ]
   rw[show decide (V.int ((rn b sg mv r c0:Nat):Int)=V.int sn)=kq b sg mv sn [r,c0] from decide_eq_decide.mpr ⟨λe=>V.int.inj e,λe=>congrArg V.int e⟩]
   rfl
  rintro σ H8 ⟨v0,rfl,s8,c8⟩
  rw[I0,Ax] at c8
  dsimp only[aJ]
  subst hY
  refine⟨_,rfl,_,rfl,C3,_,rfl,.inl ⟨.of c8,λYy hYy=>?_⟩⟩
  have sY:=Same.new (o:=.tup ((xs.map (kq b sg mv sn)).map V.bl)) hYy
  refine⟨_,rfl,p,_,_,.ref va,rfl,rfl,.of (sY _ _ (s8 _ _ Vk)),au (j:=1) rfl,by show 3<=sizeLine;decide,λpr hpr=>?_⟩
  have sP:=Same.new (o:=.tup [.ref nm,.ref Yy,.ref va]) hpr
  have sA:=(s8.trans sY).trans sP
  exact q pr nm Yy va ps' xs mw _ (kB.trans (KX.same (s7.trans sA))) (M1.same (s7.trans sA)) af (sA _ _ en7) (sP _ _ af) (sA _ _ YM) (YN.keep sA.kt) hl hle gr
def Qi(t:Term):Prop:=0<=t.num/\t.num<=99/\∀q∈t.parts,1<=q.2/\q.2<=9
theorem vT(n:Str):∀(ps:List (Str×Int)) (d:Int),(∀q∈ps,1<=q.2/\q.2<=9)->0<=d->d<=9->0<=fG n ps d/\fG n ps d<=9
 | [],d,_,h1,h2=>⟨h1,h2⟩
 | p::ps,d,h,h1,h2=>by
  have hp:=h p AZ
  refine vT n ps _ (λq hq=>h q (AV _ hq)) ?_ ?_<;>split<;>omega
theorem Nb:∀(l ds:List Int),(∀x∈l,0<=x/\x<=3)->(∀d∈ds,0<=d/\d<=9)->0<=dot l ds/\dot l ds<=27*(ds.length:Int)
 | [],ds,_,_=>by cases ds<;>(show(0:Int)<=0/\(0:Int)<=_;omega)
 | x::xs,[],_,_=>by show(0:Int)<=0/\(0:Int)<=27*((0:Nat):Int);omega
 | x::xs,d::ds,h1,h2=>by
  have ih:=Nb xs ds (λy hy=>h1 y (AV _ hy)) λy hy=>h2 y (AV _ hy)
  have hx:=h1 x AZ
  have hd:=h2 d AZ
  have m:0<=x*d/\x*d<=27:=by
   have:x=0∨x=1∨x=2∨x=3:=by omega
   rcases this with rfl | rfl | rfl | rfl<;>omega
  show 0<=x*d+dot xs ds/\x*d+dot xs ds<=27*((ds.length+1:Nat):Int)
  omega
theorem zN{b:Nat}(hb4:b<=4){t:Term}(ht:Qi t){ks:List Str}(hl:ks.length<=4):∀z∈cA b (ks.map t.at),0<=z/\z<=((200:Nat):Int):=λz hz=>by
 obtain⟨l,hl',rfl⟩:=A1.mp hz
 have:=Nb l (ks.map t.at) (λy hy=>by have:=qe b _ l hl' y hy;omega) λd hd=>by
  obtain⟨n,_,rfl⟩:=A1.mp hd
  exact vT n t.parts 0 ht.2.2 (by omega) (by omega)
 rw[AB] at this
 omega
abbrev pM (H:Hp):List Addr->List (Str×Int)->Prop:=Bv (λ(p:Addr) (q:Str×Int)=>H p=some (.tup [.str q.1,.int q.2]))
theorem pM.keep{H H':Hp}{ps:List Addr}{qs:List (Str×Int)}(h:pM H ps qs)(k:aW H H'):pM H' ps qs:=Paired.mP h λ_ _ z=>k _ _ z
def Vm:Sp:=λvs H Q _=>∃(F L nm:Addr) (ss:List Str),vs=[.ref F,.ref nm]/\bK H F L/\H nm=some (.tup (ss.map V.str))/\ss.length<=3/\
 ∀(ta:Addr) (t:Term) (H':Hp),cm F L H H'->bK H' F L->f_ H' ta t->fM ss t->Qi t->(t.parts.map (·.1)).Sublist ss->Q (.ref ta) H'
theorem vU:aO ["_law_feed_here","_law_names_here","_law_parts"] ["_law_feed_here","_law_names_here"] (ah g5):=⟨rfl,rfl,rfl,by decide+kernel,rfl,by decide+kernel,by decide+kernel⟩
set_option maxHeartbeats 16000000 in
theorem Nc{a:bR}(T:Txt K mg a):aR P w K mg base bj 2 a.nu a.o_ ["_law_feed_here","_law_names_here"] Vm:=by
 have aX:=ib (P:=P) (w:=w) (base:=base) T
 refine T.Ot.ok vU (λvs H Q E h=>?_) (λcdv A outer s H vs Q E hr h=>?_)
 ·obtain⟨F,L,nm,ss,rfl,_⟩:=h
  rfl
 ·obtain⟨F,L,nm,ss,rfl,hf,en,ls,k⟩:=h
  have aS:aP 1 _:=hr
  refine⟨_,(ai (gc (i:=2) (aG.mk' (esc:=ah g5) (N:=["_law_feed_here","_law_names_here","_law_parts"]) (own:=["_law_name"]) (aI:=["_law_feed_here"]) (bJ:=[0]) rfl rfl (by decide+kernel)) rfl (fO (pv 1)) (λ_ _ _ _=>(aH (i:=0) (show A3 (["_law_name","_law_feed_here"]:List Str) by decide+kernel) rfl (Ad rfl))) (λ_ _ _ _=>(qE (bx pS (aA aX aS rfl T.bo T.bp T.bq .nil aK (ae (pv 1) (ae aj ag))) aj (bD _)))) (λ_ _ _ _=>(bf (ae (pv 0) (ae (aV dX aj (aA aX aS rfl T.bo T.bp T.bq .nil aK (ae (pv 1) (ae (aB (cP K) (cf (ae aj (ae aj ag))) (aA aX aS rfl T.bo T.bp T.bq .nil aK (ae (pv 1) (ae aj ag))) (λ_ _=>rfl)) ag)))) ag)))) vU.nd rfl rfl)
  (av (aQ (bf (ae (aB (cP K) (cf (ae (aA aX aS rfl T.bo T.bp T.bq .nil aK (ae (pv 0) (ae aj ag))) (ae (aA aX aS rfl T.bo T.bp T.bq .nil aK (ae (pv 0) (ae aj ag))) ag))) (aA aX aS rfl T.bo T.bp T.bq .nil aK (ae (pv 0) (ae aj ag))) (λ_ _=>rfl)) (ae (bF (bG K) (by rfl) T.b_ bS (ae (pv 2) ag)) ag)))))),?_⟩
  have tJ:(2 ^ 10:Nat)<2 ^ 1000:=Cp (by decide) (by decide)
  have big:(10000:Nat)<=sizeLine:=by decide
  have small:∀x:Nat,x<=1000->x<2 ^ 1000:=λx hx=>CG (show x<2 ^ 10 by omega) tJ
  refine aN λY hY=>?_
  refine⟨_,rfl,nm,rfl,⟨_,.of en⟩,λC hC=>?_⟩
  have nC:=hf.iF hC
  refine fj (xs:=ss.map V.str) (λi σ H'=>∃(ps:List Addr) (qs:List (Str×Int)) (v:Option V),σ=[v,some (.ref F)]/\cm F L H H'/\bK H' F L/\H' C=some (.lst (ps.map V.ref))/\pM H' ps qs/\(qs.map (·.1)).Sublist (ss.take i)/\qs.length<=i/\∀q∈qs,q.1∈ss/\1<=q.2/\q.2<=9)
   ⟨[],[],none,?sg,(Same.new hC).kb2,hf.same (Same.new hC),af,.nil,List.nil_sublist _,AM _,λq hq=>(by cases hq)⟩ (λi σ H' _ ⟨_,_,_,_,k',_⟩=>.of (hf.ktu k' _ _ en)) ?_ ?_
  case sg=>rfl
  ·rintro i x σ H1 hx ⟨ps,qs,v,rfl,k1,f1,c1,tp,sb,lq,hq⟩
   obtain⟨n,rfl,en'⟩:=me hx
   have hi:=(AF.mp en').1
   have lp:ps.length=qs.length:=AX tp
   refine⟨_,rfl,F,L,3,rfl,f1,by decide,small _ (by decide),λr H2 r1 k2 f2=>⟨_,_,rfl,rfl,_,rfl,?_⟩⟩
   have Jo:=f1.ktu k2
   have c2:=k2 _ _ c1 nC.1 nC.2
   refine cW (λ_=>?_) (λ_=>⟨ps,qs,_,rfl,k1.trans k2,f2,c2,tp.keep Jo,sb.trans (List.take_sublist_take_left (B' i)),by omega,hq⟩)
   refine⟨_,rfl,_,rfl,by show 2<=sizeLine;decide,λZ hZ=>?_⟩
   have sZ:=Same.new (o:=.lst [.int 2,.int 9]) hZ
   have nZ:=f2.iF hZ
   refine⟨_,rfl,F,L,2,rfl,f2.same sZ,by decide,small _ (by decide),λr2 H3 q2 k3 f3=>?_⟩
   obtain⟨d,hd,hd0,YD⟩:∃d:Nat,je ([.int 2,.int 9]:List V) (r2:Int)=some (.int (d:Nat))/\0<d/\d<=9:=by
    match r2,q2 with
    | 0,_=>exact⟨2,rfl,by decide,by decide⟩
    | 1,_=>exact⟨9,rfl,by decide,by decide⟩
   refine⟨Z,_,_,.int (d:Nat),rfl,rfl,.of (k3 _ _ af nZ.1 nZ.2),hd,F,L,d,rfl,f3,hd0,small _ (by omega),λr3 H4 q3 k4 f4=>⟨_,_,rfl,rfl,by show 2<=sizeLine;decide,λp hp=>?_⟩⟩
   have sp:=Same.new (o:=.tup [.str n,.int (1+(r3:Int))]) hp
   have k24:=((sZ.kb2.trans k3).trans k4).trans sp.kb2
   have kA:=k1.trans (k2.trans k24)
   have f5:=f4.same sp
   have c5:=k24 _ _ c2 nC.1 nC.2
   have YQ:pM (upd H4 p (.tup [.str n,.int (1+(r3:Int))])) ps qs:=(tp.keep Jo).keep (f2.ktu k24)
   have e5:(upd H4 p (.tup [.str n,.int (1+(r3:Int))])) p=some (.tup [.str n,.int (1+(r3:Int))]):=af
   generalize upd H4 p (.tup [.str n,.int (1+(r3:Int))])=H5 at kA f5 c5 YQ e5 ⊢
   have kC:aW H5 (upd H5 C (.lst (ps.map V.ref++[.ref p]))):=aW.lst c5
   refine⟨_,c5,by rw[AB];omega,ps++[p],qs++[(n,1+(r3:Int))],_,rfl,cm.lP kA hC,f5.upd nC,by rw[af,AJ];rfl,bA (YQ.keep kC) (.cons (kC _ _ e5) .nil),by rw[AJ,take_snoc en'];exact sb.append (List.Sublist.refl _),by rw[AG];show qs.length+1<=_;omega,λq hq'=>?_⟩
   rcases Ab.mp hq' with z | z
   ·exact hq q z
   ·rw[AR.mp z];exact⟨AL en',by show 1<=1+(r3:Int);omega,by show 1+(r3:Int)<=9;omega⟩
  rintro σ H1 ⟨ps,qs,v,rfl,k1,f1,c1,tp,sb,lq,hq⟩
  rw[AB] at lq
  rw[AB,Ax] at sb
  dsimp only[aJ]
  subst hY
  refine⟨_,rfl,F,L,5,rfl,f1,by decide,small _ (by decide),λr1 H2 q1 k2 f2=>⟨_,rfl,F,L,100,rfl,f2,by decide,small _ (by decide),λr2 H3 q2 k3 f3=>⟨by show 2<=sizeLine;decide,λZ hZ=>?_⟩⟩⟩
  have sZ:=Same.new (o:=.lst [.int (r1:Nat),.int (r2:Nat)]) hZ
  have nZ:=f3.iF hZ
  refine⟨_,rfl,F,L,2,rfl,f3.same sZ,by decide,small _ (by decide),λr3 H4 q3 k4 f4=>?_⟩
  obtain⟨d,hd,ahb⟩:∃d:Nat,je ([.int (r1:Nat),.int (r2:Nat)]:List V) (r3:Int)=some (.int (d:Nat))/\d<=99:=by
   match r3,q3 with
   | 0,_=>exact⟨r1,rfl,by omega⟩
   | 1,_=>exact⟨r2,rfl,by omega⟩
  have k14:=((k2.trans k3).trans sZ.kb2).trans k4
  have c4:=k14 _ _ c1 nC.1 nC.2
  refine⟨Z,_,_,.int (d:Nat),rfl,rfl,.of (k4 _ _ af nZ.1 nZ.2),hd,_,rfl,C,_,rfl,.inl ⟨.of c4,λD hD=>?_⟩⟩
  have sD:=Same.new (o:=.tup (ps.map V.ref)) hD
  refine⟨by show 2<=sizeLine;decide,λta hta=>?_⟩
  have sT:=Same.new (o:=.tup [.int (d:Nat),.ref D]) hta
  have k15:=(k14.trans sD.kb2).trans sT.kb2
  exact k ta ⟨(d:Int),qs⟩ _ (k1.trans k15) (f4.same (sD.trans sT)) ⟨D,ps,af,sT _ _ af,tp.keep (f1.ktu k15)⟩ ⟨by show qs.length<=3;omega,λq h=>(hq q h).1⟩ ⟨by show(0:Int)<=d;omega,by show(d:Int)<=99;omega,λq h=>(hq q h).2⟩ sb
structure nL (b n:Nat)(ra:Addr)(sg:List Nat)(mv:List (List Nat))(H:Hp):Prop where
 row:jD H ra sg mv
 len:sg.length=n
 pos:0<n
 few:n<=27
 cB:Moves n b mv
 le:∀x∈sg,x<=9
theorem nL.keep{b n:Nat}{ra:Addr}{sg:List Nat}{mv:List (List Nat)}{H H':Hp}(h:nL b n ra sg mv H)(k:aW H H'):nL b n ra sg mv H':=⟨h.row.keep k,h.len,h.pos,h.few,h.cB,h.le⟩
def qf(b:Nat)(kvs:List (Key×V))(H:Hp):Prop:=∀q∈kvs,∃(x:Str) (ra:Addr) (n:Nat) (sg:List Nat) (mv:List (List Nat)),q=(Av x,.ref ra)/\nL b n ra sg mv H
theorem qf.keep{b:Nat}{kvs:List (Key×V)}{H H':Hp}(h:qf b kvs H)(k:aW H H'):qf b kvs H':=λq hq=>by
 obtain⟨x,ra,n,sg,mv,e,o⟩:=h q hq
 exact⟨x,ra,n,sg,mv,e,o.keep k⟩
structure rC (b:Nat)(wo Dw:Addr)(kvs:List (Key×V))(ss:List Str)(H:Hp):Prop where
 wo:H wo=some (.tup [.int b,.ref Dw])
 dw:H Dw=some (.dK kvs)
 ks:kvs.map (·.1)=ss.map Av
 pos:0<kvs.length
 le:kvs.length<=4
 rows:qf b kvs H
theorem rC.kb2{b:Nat}{wo Dw:Addr}{kvs:List (Key×V)}{ss:List Str}{H H':Hp}{F L:Addr}(h:rC b wo Dw kvs ss H)(f:bK H F L)(n:Dw≠F/\Dw≠L)(k:cm F L H H'):rC b wo Dw kvs ss H':=
 ⟨f.ktu k _ _ h.wo,k _ _ h.dw n.1 n.2,h.ks,h.pos,h.le,h.rows.keep (f.ktu k)⟩
theorem Vn{H H':Hp}(k:aW H H'):∀{ps:List Addr} {kvs:List (Key×V)},Bv (λ(p:Addr) (q:Key×V)=>H p=some (.tup [kV q.1,q.2])) ps kvs->Bv (λ(p:Addr) (q:Key×V)=>H' p=some (.tup [kV q.1,q.2])) ps kvs
 | _,_,.nil=>.nil
 | _,_,.cons h t=>.cons (k _ _ h) (Vn k t)
def RX:Sp:=λvs H Q _=>∃(F L:Addr),vs=[.ref F]/\bK H F L/\∀(wo Dw:Addr) (b:Nat) (kvs:List (Key×V)) (ss:List Str) (H':Hp),cm F L H H'->bK H' F L->2<=b->b<=4->rC b wo Dw kvs ss H'->Dw≠F/\Dw≠L->Q (.ref wo) H'
theorem nO:aO ["_law_feed_here","_law_base","_law_names_here"] ["_law_feed_here"] (ah fh):=⟨rfl,rfl,rfl,by decide+kernel,rfl,by decide+kernel,by decide+kernel⟩
set_option maxHeartbeats 16000000 in
theorem Kq{a:bR}(T:Txt K mg a):aR P w K mg base bj 3 a.k_ a.nt ["_law_feed_here"] RX:=by
 have aX:=ib (P:=P) (w:=w) (base:=base) T
 have pN:=sX (P:=P) (w:=w) (base:=base) T
 have RY:=OY (P:=P) (w:=w) (base:=base) T
 refine T.Ma.ok nO (λvs H Q E h=>?_) (λcdv A outer s H vs Q E hr h=>?_)
 ·obtain⟨F,L,rfl,_⟩:=h
  rfl
 ·obtain⟨F,L,rfl,hf,k⟩:=h
  have aS:aP 1 _:=hr.mono (by decide)
  have nQ:aP 2 _:=hr
  have O0:aP 2 _:=hr
  refine⟨_,(ai (ay (i:=1) nO.nd rfl (DK rfl) (aV dX aj (aA aX aS rfl T.bo T.bp T.bq .nil aK (ae (pv 0) (ae aj ag)))))
  (ai (gc (i:=2) (aG.mk' (esc:=ah fh) (N:=["_law_feed_here","_law_base","_law_names_here"]) (own:=["_law_name"]) (aI:=[]) (bJ:=[]) rfl rfl (by decide+kernel)) rfl (fO (aA pN nQ rfl T.vC T.vD T.vE .nil aK (ae (pv 0) (ae (aV dX aj (aA aX aS rfl T.bo T.bp T.bq .nil aK (ae (pv 0) (ae aj ag)))) ag)))) (λ_ _ _ _=>(aH (i:=0) (show A3 (["_law_name"]:List Str) by decide+kernel) rfl (Ad rfl))) (λ_ _ _ _=>a_) (λ_ _ _ _=>(Rx K EL F' PySem.F.type_str_upper Oc (pv 0))) nO.nd rfl rfl)
  (av (aQ (bf (ae (pv 1) (ae (bF (JW hr.hd) (by rfl) T.Mj Iz (ae (bN (aG.mk' (esc:=ah fh) (N:=["_law_feed_here","_law_base","_law_names_here"]) (own:=["_law_name"]) (aI:=["_law_feed_here","_law_base"]) (bJ:=[0,1]) rfl rfl (by decide+kernel)) rfl (cH (pv 2)) (λ_ _ _ _=>(aH (i:=0) (show A3 (["_law_name","_law_feed_here","_law_base"]:List Str) by decide+kernel) rfl (Ad rfl))) (λ_ _ _ _=>a_) (λ_ _ _ _=>(bf (ae (pv 0) (ae (aA RY O0 rfl T.RB T.RC T.RD .nil aK (ae (pv 1) (ae (pv 2) ag))) ag))))) ag)) ag))))))),?_⟩
  have tJ:(2 ^ 10:Nat)<2 ^ 1000:=Cp (by decide) (by decide)
  have big:(10000:Nat)<=sizeLine:=by decide
  have small:∀x:Nat,x<=1000->x<2 ^ 1000:=λx hx=>CG (show x<2 ^ 10 by omega) tJ
  refine aN λY hY=>?_
  refine⟨_,rfl,F,L,3,rfl,hf,by decide,small _ (by decide),λr H1 r1 k1 f1=>⟨_,_,rfl,rfl,?_⟩⟩
  have eb:(2:Int)+(r:Int)=((2+r:Nat):Int):=by omega
  dsimp only[aJ]
  subst hY
  rw[eb]
  generalize hbb:2+r=b
  have hb2:2<=b:=by omega
  have hb4:b<=4:=by omega
  refine aN λY hY=>?_
  refine⟨_,rfl,_,rfl,F,L,4,rfl,f1,by decide,small _ (by decide),λr' H2 r2 k2 f2=>⟨_,_,rfl,rfl,F,L,1+r',by rw[show((1+r':Nat):Int)=1+(r':Int) by omega];rfl,f2,by omega,λpl ss H3 hpl k3 f3 ow M0 Qj zg=>⟨pl,rfl,⟨_,.of ow⟩,λC hC=>?_⟩⟩⟩
  refine fj (xs:=ss.map V.str) (λi σ H'=>∃(us:List Str) (v:Option V),σ=[v]/\Same H3 H'/\H' C=some (.lst (us.map V.str))/\us.length=i)
   ⟨[],none,?sg,Same.new hC,af,rfl⟩ (λi σ H' _ ⟨_,_,_,s',_⟩=>.of (s' _ _ ow)) ?_ ?_
  case sg=>rfl
  ·rintro i x σ H4 hx ⟨us,v,rfl,s4,c4,lu⟩
   obtain⟨n,rfl,en'⟩:=me hx
   have hi:=(AF.mp en').1
   obtain⟨l,wl,rfl⟩:=Qj.words n (AL en')
   refine⟨_,rfl,rfl,aU l,rfl,rfl,Ua wl.lt wl.le,_,c4,?_,us++[G3 (aU l)],_,rfl,s4.kbn hC KB.write,?_,by rw[AG,lu];rfl⟩
   ·rw[AB];omega
   ·rw[af,AJ];rfl
  rintro σ H4 ⟨us,v,rfl,s4,c4,lu⟩
  rw[AB,M0] at lu
  have f4:=f3.same s4
  have kk:=((k1.trans k2).trans k3).trans s4.kb2
  have nC:=f3.iF hC
  dsimp only[aJ]
  subst hY
  refine⟨_,rfl,_,rfl,C,rfl,⟨_,.of c4⟩,λD hD=>?_⟩
  have nD:=f4.iF hD
  refine dn (xs:=us.map V.str) (λi σ H'=>∃(ps:List Addr) (kvs:List (Key×V)) (v:Option V),σ=[v,some (.ref F),some (.int (b:Nat))]/\cm F L H4 H'/\bK H' F L/\H' D=some (.lst (ps.map V.ref))/\Bv (λ(p:Addr) (q:Key×V)=>H' p=some (.tup [kV q.1,q.2])) ps kvs/\kvs.length=i/\qf b kvs H')
   ⟨[],[],none,?sg1,(Same.new hD).kb2,f4.same (Same.new hD),af,.nil,rfl,λq hq=>(by cases hq)⟩ (λi σ H' _ ⟨_,_,_,_,k',_⟩=>.of (k' _ _ c4 nC.1 nC.2)) ?_ ?_
  case sg1=>rfl
  ·rintro i x σ H5 hx ⟨ps,kvs,v,rfl,k5,f5,d5,pr,lk,rq⟩
   obtain⟨n,rfl,en'⟩:=me hx
   have hi:=(AF.mp en').1
   refine⟨_,rfl,_,rfl,_,rfl,F,L,b,rfl,f5,hb2,hb4,λra sg mv n' H6 k6 f6 row len n0 n27 cB Vo _=>⟨by show 2<=sizeLine;decide,λp hp=>?_⟩⟩
   have sp:=Same.new (o:=.tup [.str n,.ref ra]) hp
   have d7:=sp _ _ (k6 _ _ d5 nD.1 nD.2)
   have kt:aW H5 (upd H6 p (.tup [.str n,.ref ra])):=λb ys z=>sp _ _ (f5.ktu k6 _ _ z)
   have Jj:aW (upd H6 p (.tup [.str n,.ref ra])) (upd (upd H6 p (.tup [.str n,.ref ra])) D (.lst (ps.map V.ref++[.ref p]))):=aW.lst d7
   have kA:aW H5 (upd (upd H6 p (.tup [.str n,.ref ra])) D (.lst (ps.map V.ref++[.ref p]))):=λb ys z=>Jj _ _ (kt _ _ z)
   refine⟨_,d7,?_,ps++[p],kvs++[(Av n,.ref ra)],_,rfl,?_,?_,?_,?_,by rw[AG,lk];rfl,?_⟩
   ·rw[AB,AX pr];omega
   ·exact cm.lP ((k5.trans k6).trans sp.kb2) hD
   ·exact(f6.same sp).upd nD
   ·rw[af,AJ];rfl
   ·exact bA (Vn kA pr) (.cons (Jj _ _ af) .nil)
   ·intro q hq
    rcases Ab.mp hq with z | z
    ·exact(rq.keep kA) q z
    ·exact⟨n,ra,n',sg,mv,AR.mp z,(⟨row,len,n0,n27,cB,Vo⟩:nL b n' ra sg mv H6).keep λb ys z=>Jj _ _ (sp _ _ z)⟩
  rintro σ H5 ⟨ps,kvs,v,rfl,k5,f5,d5,pr,lk,rq⟩
  rw[AB,lu] at lk
  refine⟨D,ps,kvs,rfl,d5,pr,by omega,λDw hDw=>⟨by show 2<=sizeLine;decide,λwo Qk=>?_⟩⟩
  have sd:=Same.new (o:=.dK (bP [] kvs)) hDw
  have sw:=Same.new (o:=.tup [.int (b:Nat),.ref Dw]) Qk
  have sA:=sd.trans sw
  have YR:qf b (bP [] kvs) H5:=λq hq=>by
   rcases sj hq with z | z
   ·cases z
   ·exact rq q z
  obtain⟨ns,ens⟩:=yh (kvs:=bP [] kvs) λq hq=>by
   obtain⟨x,ra,n,sg,mv,e,_⟩:=YR q hq
   exact⟨x,by rw[e]⟩
  have hle:=fD kvs []
  exact k wo Dw b (bP [] kvs) ns _ ((kk.trans k5).trans sA.kb2) (f5.same sA) hb2 hb4 ⟨af,sw _ _ af,ens,J6 (by omega),by rw[CK] at hle;omega,YR.keep sA.kt⟩ (f5.iF hDw)
end
end My
namespace My
open PySem L2
section
variable{α:Type}{x0:α}{on:α->Nat->α}{m:Nat}
theorem zO{xs:List α}(nd:xs.Nodup){i j:Nat}{x:α}(h:xs[i]? =some x)(g:xs[j]? =some x):i=j:=by
 obtain⟨hi,e⟩:=AF.mp h
 obtain⟨hj,e'⟩:=AF.mp g
 exact(List.getElem_inj nd).mp (e.trans e'.symm)
theorem uF{xs ys:List α}(ndx:xs.Nodup)(Jp:ys.Nodup){x:α}:∀(l l':List Nat) (c s s1 s2:Nat),l.length=l'.length->cb l s=some s1->cb l' s=some s2->(∀i,i<s->xs[i]? =ys[i]?)->
  (∀k t,l[k]? =some t->xs[t]? =some (on x (c+k)))->(∀k t,l'[k]? =some t->ys[t]? =some (on x (c+k)))->l=l'/\s1=s2/\∀i,i<s1->xs[i]? =ys[i]?
 | [],[],c,s,s1,s2,_,h,h',eq,_,_=>by
  cases h;cases h'
  exact⟨rfl,rfl,eq⟩
 | [],_::_,_,_,_,_,hl,_,_,_,_,_=>by cases hl
 | _::_,[],_,_,_,_,hl,_,_,_,_,_=>by cases hl
 | t::l,t'::l',c,s,s1,s2,hl,h,h',eq,hx,hy=>by
  have ex:xs[t]? =some (on x c):=hx 0 t rfl
  have ey:ys[t']? =some (on x c):=hy 0 t' rfl
  have hx':∀k u,l[k]? =some u->xs[u]? =some (on x (c+1+k)):=λk u z=>by rw[show c+1+k=c+(k+1) by omega];exact hx (k+1) u z
  have hy':∀k u,l'[k]? =some u->ys[u]? =some (on x (c+1+k)):=λk u z=>by rw[show c+1+k=c+(k+1) by omega];exact hy (k+1) u z
  have hl':l.length=l'.length:=DY hl
  rw[cb] at h h'
  by_cases lt:t<s
  ·rw[if_pos lt] at h
   have e:t'=t:=zO Jp ey (by rw[<-eq t lt];exact ex)
   subst e
   rw[if_pos lt] at h'
   obtain⟨r1,r2,r3⟩:=uF ndx Jp l l' (c+1) s s1 s2 hl' h h' eq hx' hy'
   exact⟨by rw[r1],r2,r3⟩
  ·rw[if_neg lt] at h
   by_cases es:t=s
   ·rw[if_pos es] at h
    have lt':¬t'<s:=λz=>by
     have:=zO ndx ex (by rw[eq t' z];exact ey)
     omega
    rw[if_neg lt'] at h'
    by_cases es':t'=s
    ·rw[if_pos es'] at h'
     obtain⟨r1,r2,r3⟩:=uF ndx Jp l l' (c+1) (s+1) s1 s2 hl' h h' (λi hi=>by
      by_cases z:i<s
      ·exact eq i z
      ·have:i=s:=by omega
       rw[this,<-es,ex,es,<-es',ey]) hx' hy'
     exact⟨by rw[r1,es,es'],r2,r3⟩
    ·rw[if_neg es'] at h';cases h'
   ·rw[if_neg es] at h;cases h
theorem zP{xs ys:List α}(ndx:xs.Nodup)(Jp:ys.Nodup):∀(mv mv':List (List Nat)) (i s s1 s2:Nat),eZ mv i s=some s1->eZ mv' i s=some s2->(∀j,j<s->xs[j]? =ys[j]?)->
  (∀k r,mv[k]? =some r->r.length=m/\∃x,xs[i+k]? =some x/\∀c t,r[c]? =some t->xs[t]? =some (on x c))->(∀k r,mv'[k]? =some r->r.length=m/\∃x,ys[i+k]? =some x/\∀c t,r[c]? =some t->ys[t]? =some (on x c))->
  i+mv.length=xs.length->i+mv'.length=ys.length->s1=xs.length->s2=ys.length->mv=mv'/\xs=ys
 | [],[],i,s,s1,s2,h,h',eq,_,_,l1,l2,e1,e2=>by
  cases h;cases h'
  refine⟨rfl,FP λj=>?_⟩
  by_cases z:j<s
  ·exact eq j z
  ·rw[CC (by omega),CC (by omega)]
 | [],r'::mv',i,s,s1,s2,h,h',eq,_,hy,l1,l2,e1,e2=>by
  cases h
  rw[eZ] at h'
  rw[CK] at l1
  rw[if_neg (by omega)] at h'
  cases h'
 | r::mv,[],i,s,s1,s2,h,h',eq,hx,_,l1,l2,e1,e2=>by
  cases h'
  rw[eZ] at h
  rw[CK] at l2
  rw[if_neg (by omega)] at h
  cases h
 | r::mv,r'::mv',i,s,s1,s2,h,h',eq,hx,hy,l1,l2,e1,e2=>by
  rw[eZ] at h h'
  by_cases lt:i<s
  ·rw[if_pos lt] at h h'
   obtain⟨a1,ha,h⟩:=Bl.mp h
   obtain⟨a2,ha',h'⟩:=Bl.mp h'
   obtain⟨q1,x,q2,q3⟩:=hx 0 r rfl
   obtain⟨p1,y,p2,p3⟩:=hy 0 r' rfl
   have exy:x=y:=by
    rw[Nat.add_zero] at q2 p2
    rw[eq i lt,p2] at q2
    exact(AS q2).symm
   subst exy
   obtain⟨z1,z2,z3⟩:=uF ndx Jp r r' 0 s a1 a2 (q1.trans p1.symm) ha ha' eq (λk t z=>by rw[DD];exact q3 k t z) (λk t z=>by rw[DD];exact p3 k t z)
   subst z1 z2
   obtain⟨w1,w2⟩:=zP ndx Jp mv mv' (i+1) a1 s1 s2 h h' z3 (λk r z=>by rw[show i+1+k=i+(k+1) by omega];exact hx (k+1) r z) (λk r z=>by rw[show i+1+k=i+(k+1) by omega];exact hy (k+1) r z)
    (by rw[A4] at l1;omega) (by rw[A4] at l2;omega) e1 e2
   exact⟨by rw[w1],w2⟩
  ·rw[if_neg lt] at h;cases h
theorem nR{xs ys:List α}{mv mv':List (List Nat)}(g:cn x0 on m xs mv)(h:mv.length=xs.length)(g':cn x0 on m ys mv')(h':mv'.length=ys.length):mv=mv'/\xs=ys:=
 zP (m:=m) (on:=on) g.once g'.once mv mv' 0 1 _ _ g.go g'.go (λj hj=>by rw[show j=0 by omega,g.first,g'.first]) (λk r z=>by rw[DD];exact g.row k r z) (λk r z=>by rw[DD];exact g'.row k r z) (by omega) (by omega) rfl rfl
theorem tM{xs ys:List α}{mv:List (List Nat)}(g:cn x0 on m xs mv)(h:mv.length=xs.length)(nd:ys.Nodup)(hy:∀y∈ys,∃w,dJ m w/\y=fz on x0 w):ys.length<=xs.length:=
 List.Nodup.length_le_of_subset nd λy z=>by
  obtain⟨w,hw,rfl⟩:=hy y z
  exact AL (g.run h w 0 x0 g.first hw)
end
theorem Nd{α:Type}{x0:α}{on:α->Nat->α}{B:Nat}{xs:List α}{mv:List (List Nat)}(g:cn x0 on B xs mv):0<xs.length:=(AF.mp g.first).1
def xp(K:AD)(ts:List Addr):Sp:=λvs H Q _=>∃(a:Addr) (ns:List Int),vs=[.ref a]/\bz K H a (ns.map V.int)/\ns.length<=63/\p_ ts H/\∀H',Q (.bl true) H'
theorem bK.tb{a:bR}{H H':Hp}{F L:Addr}(t:TB a H)(f:bK H F L)(k:cm F L H H'):TB a H':=by
 obtain⟨ms,n,sd,e1,e2,_⟩:=f.ex
 have one:∀{T:Addr} {M:List (Pos×Str)},Tab H T M->Tab H' T M:=λ{T M} x=>by
  obtain⟨ps,h1,h2,h3⟩:=x
  refine⟨ps,k _ _ h1 (λz=>by rw[z,e1] at h1;cases h1) (λz=>by rw[z,e2] at h1;cases h1),h2,λp hp=>?_⟩
  rcases h3 p hp with z | ⟨c,z1,z2⟩
  ·exact .inl z
  ·exact .inr ⟨c,z1,k _ _ z2 (λz=>by rw[z,e1] at z2;cases z2) λz=>by rw[z,e2] at z2;cases z2⟩
 exact⟨one t.si,one t.du⟩
theorem bK.kx{a:bR}{H H':Hp}{F L:Addr}(f:bK H F L)(k:KX a H H'):bK H' F L:=by
 obtain⟨ms,n,sd,e1,e2,h⟩:=f.ex
 exact⟨ms,n,sd,k _ _ e1 (λ_ z=>nomatch z),k _ _ e2 (λ_ z=>nomatch z),h⟩
theorem zQ{H:Hp}{n:Nat}{p q:Addr}{α:Type}(f:α->V)(l:List α)(hf:∀x,Lf (f x) (f x))(e1:H p=some (.tup (l.map f)))(e2:H q=some (.tup (l.map f)))(hl:l.length<=3000):Tr H (n+2) (.ref p) (.ref q):=
 .inr ⟨p,q,_,_,rfl,rfl,.inl ⟨e1,e2⟩,rfl,by rw[AB];exact hl,λi u v hu hv=>.inl (by
  rw[hu] at hv
  cases hv
  obtain⟨x,_,rfl⟩:=A1.mp (AL hu)
  exact hf x)⟩
theorem RZ{H:Hp}{p q:Addr}{ps qs:List Addr}{mv:List (List Nat)}(e1:H p=some (.tup (ps.map V.ref)))(e2:H q=some (.tup (qs.map V.ref)))(t1:bY H ps (mv.map aD))(t2:bY H qs (mv.map aD))(hl:mv.length<=3000)(hr:∀l∈mv,l.length<=3000):Tr H 3 (.ref p) (.ref q):=by
 have l1:ps.length=mv.length:=by rw[AX t1,AB]
 have l2:qs.length=mv.length:=by rw[AX t2,AB]
 refine .inr ⟨p,q,_,_,rfl,rfl,.inl ⟨e1,e2⟩,by rw[AB,AB,l1,l2],by rw[AB,l1];exact hl,λi u v hu hv=>?_⟩
 obtain⟨a,rfl,ea⟩:=jS hu
 obtain⟨b,rfl,eb⟩:=jS hv
 obtain⟨r,er,h1⟩:=t1.get ea
 obtain⟨r',YS,h2⟩:=t2.get eb
 rw[er] at YS
 cases YS
 refine zQ V.int r (λx=>.inl ⟨x,rfl,rfl⟩) h1 h2 ?_
 obtain⟨l,hl',rfl⟩:=A1.mp (AL er)
 rw[bL];exact hr l hl'
theorem R_{H:Hp}{m t n1 n2 y1 y2 v1 v2:Addr}{ps qs:List Addr}{us:List Str}{bs:List Bool}{mv:List (List Nat)}(e1:H m=some (.tup [.ref n1,.ref y1,.ref v1]))(e2:H t=some (.tup [.ref n2,.ref y2,.ref v2]))(a1:H n1=some (.tup (us.map V.str)))(a2:H n2=some (.tup (us.map V.str)))
  (b1:H y1=some (.tup (bs.map V.bl))) (b2:H y2=some (.tup (bs.map V.bl))) (c1:H v1=some (.tup (ps.map V.ref))) (c2:H v2=some (.tup (qs.map V.ref))) (t1:bY H ps (mv.map aD)) (t2:bY H qs (mv.map aD)) (lu:us.length<=3000) (lb:bs.length<=3000) (hl:mv.length<=3000) (hr:∀l∈mv,l.length<=3000):Tr H 4 (.ref m) (.ref t):=by
 refine .inr ⟨m,t,_,_,rfl,rfl,.inl ⟨e1,e2⟩,rfl,by show 3<=3000;decide,λi u v hu hv=>?_⟩
 match i,hu,hv with
 | 0,hu,hv=>cases hu;cases hv;exact zQ V.str us (λx=>.inr (.inr ⟨x,rfl,rfl⟩)) a1 a2 lu
 | 1,hu,hv=>cases hu;cases hv;exact zQ V.bl bs (λx=>.inr (.inl ⟨x,rfl,rfl⟩)) b1 b2 lb
 | 2,hu,hv=>cases hu;cases hv;exact RZ c1 c2 t1 t2 hl hr
section
variable{X:Cx}
def Xl(K:AD):R2:=λx y H Q=>∃(a b:Addr) (xs ys:List V),x=.ref a/\y=.ref b/\H a=some (.tup xs)/\H b=some (.tup ys)/\xs.length+ys.length<=sizeLine/\∀u H',Same H H'->H' u=some (.tup (xs++ys))->Q (.ref u) H'
theorem R0(K:AD)(hK:X.K=K:=by rfl):dm X (CU .Add) (Xl K):=by
 subst hK
 intro pins s σ H x y v u Q I rx ry h
 obtain⟨a,b,xs,ys,rfl,rfl,ha,hb,hz,q⟩:=h
 by_cases hx:xs=[]
 ·subst hx
  exact Iy pins s σ H _ _ v u Q I rx ry ⟨a,b,ys,rfl,rfl,.of ha,.of hb,q b H (.refl _) hb⟩
 ·exact Ir pins s σ H _ _ v u Q I rx ry ⟨a,b,xs,ys,rfl,rfl,.of ha,.of hb,hx,hz,λz=>q a H (.refl _) (by rw[z,BS];exact ha),λ_ p hp=>q p _ (Same.new hp) af⟩
end
open PySem.Spec PyProof.Rows in
theorem vV:∀{l:List Str},Bm l=true->l.Pairwise (λa b=>ltCps b.cps.toList a.cps.toList=false)
 | [],_=>.nil
 | x::l,h=>.cons (λy hy=>by
   have:=kP l x h y hy
   rw[GQ]
   simpa using List.not_lt.mpr this) (vV (lL h))
theorem tN{l m:List Str}(h:l.Sublist m)(s:Bm m=true):Bm l=true:=PyProof.Rows.sortedS_of_pairwise _ ((vV s).sublist h)
theorem rC.same{b:Nat}{wo Dw:Addr}{kvs:List (Key×V)}{ss:List Str}{H H':Hp}(h:rC b wo Dw kvs ss H)(s:Same H H'):rC b wo Dw kvs ss H':=⟨s _ _ h.wo,s _ _ h.dw,h.ks,h.pos,h.le,h.rows.keep s.kt⟩
structure oA (t:Term):Prop where
 sm:Qi t
 few:t.parts.length<=3
 so:Bm (t.parts.map (·.1))=true
 nd:(t.parts.map (·.1)).Nodup
theorem oA.sub{pool:List Str}{t:Term}(so:Bm pool=true)(nd:pool.Nodup)(ts:Qi t)(l:t.parts.length<=3)(sb:(t.parts.map (·.1)).Sublist pool):oA t:=⟨ts,l,tN sb so,GX sb nd⟩
theorem oA.cut{t:Term}(h:oA t){d:Int}(h0:0<=d)(h9:d<=99):oA ⟨d,t.parts.take 1⟩:=by
 have sb:((t.parts.take 1).map (·.1)).Sublist (t.parts.map (·.1)):=(List.take_sublist 1 t.parts).map _
 refine⟨⟨h0,h9,λq hq=>h.sm.2.2 q (CH hq)⟩,?_,tN sb h.so,GX sb h.nd⟩
 show(t.parts.take 1).length<=3
 rw[Ao];omega
theorem oA.free{t:Term}(h:oA t)(x:Str)(sn:Int):dM (t.parts.map (·.1)) (.sign x t sn):=⟨h.so,h.nd,λ_=>Iff.rfl⟩
theorem oA.over{t:Term}(h:oA t):fM (t.parts.map (·.1)) t:=⟨h.few,λq hq=>A1.mpr ⟨q,hq,rfl⟩⟩
theorem Jq{H:Hp}:∀{ps:List Addr} {qs:List (Str×Int)} (n:Nat),pM H ps qs->pM H (ps.take n) (qs.take n)
 | _,_,0,_=>.nil
 | _,_,n+1,.nil=>.nil
 | _,_,n+1,.cons h t=>.cons h (Jq n t)
theorem Vp{K:AD}{H:Hp}{p:Addr}{ps:List Addr}{Q:VK}(e:H p=some (.tup (ps.map V.ref)))(h:∀q H',Same H H'->H' q=some (.tup ((ps.take 1).map V.ref))->Q (.ref q) H'):PB K (.ref p) none (some 1) H Q:=by
 have e1:HT.br (ps.map V.ref).length (ps.map V.ref).length (some 1)=min 1 (ps.map V.ref).length:=HT.Im _ _ 1
 refine⟨p,_,rfl,.of e,λc=>?_,λc q hq=>?_⟩
 ·have c2:=c.2
  rw[e1,AB] at c2
  exact h p H (.refl _) (by rw[Bp (by omega)];exact e)
 ·refine h q _ (Same.new hq) ?_
  rw[af]
  unfold j4
  rw[HT.Nx,e1,Gs,Ha,List.map_take]
  congr 2
  rw[<-List.take_eq_take_min]
structure LS (a:bR)(b n:Nat)(F L wo Dw ra ta:Addr)(kvs:List (Key×V))(x:Str)(t:Term)(sg:List Nat)(mv:List (List Nat))(H:Hp):Prop where
 tb:TB a H
 fd:bK H F L
 wo:H wo=some (.tup [.int b,.ref Dw])
 dw:H Dw=some (.dK kvs)
 ne:Dw≠F/\Dw≠L
 at':bt kvs (Av x)=some (.ref ra)
 row:nL b n ra sg mv H
 tm:f_ H ta t
 sm:oA t
section
variable{a:bR}{b n:Nat}{F L wo Dw ra ta:Addr}{kvs:List (Key×V)}{x:Str}{t:Term}{sg:List Nat}{mv:List (List Nat)}{H H':Hp}
theorem LS.kb2(h:LS a b n F L wo Dw ra ta kvs x t sg mv H)(k:cm F L H H')(f:bK H' F L):LS a b n F L wo Dw ra ta kvs x t sg mv H':=
 ⟨bK.tb h.tb h.fd k,f,h.fd.ktu k _ _ h.wo,k _ _ h.dw h.ne.1 h.ne.2,h.ne,h.at',h.row.keep (h.fd.ktu k),h.tm.keep (h.fd.ktu k),h.sm⟩
theorem LS.kx(h:LS a b n F L wo Dw ra ta kvs x t sg mv H)(k:KX a H H')(tb:TB a H'):LS a b n F L wo Dw ra ta kvs x t sg mv H':=
 ⟨tb,h.fd.kx k,k.kt _ _ h.wo,k _ _ h.dw (λ_ y=>nomatch y),h.ne,h.at',h.row.keep k.kt,h.tm.keep k.kt,h.sm⟩
theorem LS.same(h:LS a b n F L wo Dw ra ta kvs x t sg mv H)(s:Same H H'):LS a b n F L wo Dw ra ta kvs x t sg mv H':=h.kx (KX.same s) (h.tb.same s)
end
section
variable{P:Ak}{w:World}{K:AD}{mg:Str->Option Value}{base:Heap}
theorem di:aO ["_law_script","_law_feed_here","_law_world_here","_law_name","_law_row_here","_law_term_here","_law_most","_law_sign","_law_due_here","_law_saying"] ["_law_script"] (ah jL):=⟨rfl,rfl,rfl,by decide+kernel,rfl,by decide+kernel,by decide+kernel⟩
set_option maxHeartbeats 32000000 in
theorem Vq{a:bR}{pb:lQ}{pc:nH}(T:Txt K mg a)(hB:fq mg base)(U:ja K w.params mg pb)(Yt:jO K w.params mg pc):aR P w K mg base bj 7 a.J7 a.L_ ["_law_script"] (xp K [a.dU,a.dW,a.bT,a.dA,a.fJ]):=by
 have O1:=Mk (P:=P) (w:=w) (base:=base) T
 have aX:=ib (P:=P) (w:=w) (base:=base) T
 have pN:=sX (P:=P) (w:=w) (base:=base) T
 have Nf:=Kq (P:=P) (w:=w) (base:=base) T
 have O6:=M7 (P:=P) (w:=w) (base:=base) T
 have O7:=Nc (P:=P) (w:=w) (base:=base) T
 have lD:aR P w K mg base bj 5 a.fY a.gj ["_law_found","_law_due_here"] (qb 4):=sG T 4
 have R1:=OZ (P:=P) (w:=w) (base:=base) T hB
 have lI:aR P w K mg base bj 6 a.jj a.iD ["world","saying","most"] (rB a):=Kp T hB U Yt
 have Z_:∀t:Tok,Vals [V.int 2000] [Gv 2000 t]:=λt=>.cons ⟨t,rfl⟩ .nil
 obtain⟨td2,Kr⟩:=T.L3
 refine T.Xe.ok di (λvs H Q E h=>?_) (λcdv A outer s H vs Q E hr h=>?_)
 ·obtain⟨sa,ns,rfl,_⟩:=h
  rfl
 ·obtain⟨sa,ns,rfl,hS,hns,hO,q⟩:=h
  have Ng:aP 1 _:=hr.mono (by decide)
  have aS:aP 1 _:=hr.mono (by decide)
  have nQ:aP 2 _:=hr.mono (by decide)
  have Ks:aP 3 _:=hr.mono (by decide)
  have Nh:aP 2 _:=hr.mono (by decide)
  have Ni:aP 2 _:=hr.mono (by decide)
  have jN:aP 5 _:=hr.mono (by decide)
  have O8:aP 3 _:=hr.mono (by decide)
  have jP:aP 6 _:=hr
  refine⟨_,(ai (ay (i:=1) di.nd rfl (Ad rfl) (aA O1 Ng rfl T.Ol T.Om T.Oo .nil aK (ae (pv 0) ag)))
  (ai (ay (i:=2) di.nd rfl (Ad rfl) (aA Nf Ks rfl T.Mb T.Mc T.Md .nil aK (ae (pv 1) ag)))
  (ai (ay (i:=3) di.nd rfl (Ad rfl) (aB (cP K) (aL (JN rfl) (by rfl) T.qZ oN (ae (aB (ax K) (pv 2) aj (λ_ _=>rfl)) ag)) (aA aX aS rfl T.bo T.bp T.bq .nil aK (ae (pv 1) (ae (aL LY (by rfl) T.cF bW (ae (aB (ax K) (pv 2) aj (λ_ _=>rfl)) ag)) ag))) (λ_ _=>rfl)))
  (ai (ay (i:=4) di.nd rfl (Ad rfl) (dr (ck hr) (aB (ax K) (pv 2) aj (λ_ _=>rfl)) (pv 3) (λ_ _=>rfl)))
  (ai (ay (i:=5) di.nd rfl (Ad rfl) (aA O7 Ni rfl T.Ou T.Ov T.Ow .nil aK (ae (pv 1) (ae (aA pN nQ rfl T.vC T.vD T.vE .nil aK (ae (pv 1) (ae (aA aX aS rfl T.bo T.bp T.bq .nil aK (ae (pv 1) (ae aj ag))) ag))) ag))))
  (ai (ay (i:=6) di.nd rfl (Ad rfl) aj)
  (ai (dN (bx ij (aA aX aS rfl T.bo T.bp T.bq .nil aK (ae (pv 1) (ae aj ag))) aj (bD _))
   (ai (ay (i:=4) di.nd rfl (Ad rfl) (aA O6 Nh rfl T.OC T.OD T.OE .nil aK (ae (pv 1) (ae (aB (ax K) (pv 2) aj (λ_ _=>rfl)) ag))))
   (ai (ay (i:=2) di.nd rfl (Ad rfl) (bf (ae (aB (ax K) (pv 2) aj (λ_ _=>rfl)) (ae (Iw (j7 (pv 3) (pv 4) tS) rfl rfl (λz=>nomatch z) (by decide)) ag))))
   (ai (ay (i:=5) di.nd rfl (Ad rfl) (bf (ae (aA aX aS rfl T.bo T.bp T.bq .nil aK (ae (pv 1) (ae aj ag))) (ae (mS (Rf K) (aB (ax K) (pv 5) aj (λ_ _=>rfl)) hG (jR aj)) ag))))
   (av (ay (i:=6) di.nd rfl (Ad rfl) aj)))))
   cp)
  (ai (ay (i:=7) di.nd rfl (Ad rfl) (aB (ax K) (aV (R0 K) (aB (ax K) (pv 4) aj (λ_ _=>rfl)) (bf (ae (aA aX aS rfl T.bo T.bp T.bq .nil aK (ae (pv 1) (ae aj ag))) ag))) (aA aX aS rfl T.bo T.bp T.bq .nil aK (ae (pv 1) (ae (aV dX (aL (bu K) (by rfl) T.cF bW (ae (aB (ax K) (pv 4) aj (λ_ _=>rfl)) ag)) aj) ag))) (λ_ _=>rfl)))
  (ai (dN (PW.pt (KJ (bx ij (pv 6) aj (bD _)) (Ic (bx ij (aA aX aS rfl T.bo T.bp T.bq .nil aK (ae (pv 1) (ae aj ag))) aj (bD _)))))
   (ai (ay (i:=5) di.nd rfl (Ad rfl) (bf (ae (aV KQ aj (aA aX aS rfl T.bo T.bp T.bq .nil aK (ae (pv 1) (ae aj ag)))) (ae (bf (ae (bf (ae bH (ae aj ag))) ag)) ag))))
   (av (ay (i:=6) di.nd rfl (Ad rfl) aj)))
   cp)
  (ai (ay (i:=8) di.nd rfl (Ad rfl) (aA R1 O8 rfl T.RG T.RH T.RI .nil aK (ae (aB (ax K) (pv 2) aj (λ_ _=>rfl)) (ae (pv 4) (ae (pv 5) (ae (pv 7) (ae (pv 6) ag)))))))
  (ai (ay (i:=9) di.nd rfl (Ad rfl) (bf (ae bH (ae (pv 3) (ae (pv 5) (ae (pv 7) ag))))))
  (ai (dN (bx oK (pv 8) ie (bD _))
   (av (aQ (jQ oK (aA lI jP rfl T.lj T.lA T.o5 .nil aK (ae (pv 2) (ae (pv 9) (ae (pv 6) ag)))) ie (bD _))))
   cp)
  (ai (dN (PW.pt (rD (KL (j_ (aA lD jN rfl T.o7 T.o8 T.o9 .nil aK (ae (aA lI jP rfl T.lj T.lA Kr (Z_ _) aK (ae (pv 2) (ae (pv 9) ag))) (ae (pv 8) ag))) (λ_=>rfl))) (oH (KL (j_ (aA lD jN rfl T.o7 T.o8 T.o9 .nil aK (ae (aA lI jP rfl T.lj T.lA T.o5 .nil aK (ae (pv 2) (ae (pv 9) (ae (aL (bu K) (by rfl) T.cF bW (ae (aB (ax K) (pv 8) aj (λ_ _=>rfl)) ag)) ag)))) (ae (pv 8) ag))) (λ_=>rfl))))))
   (av (aQ Jx))
   cp)
  (av (aQ (jQ oK (aA lI jP rfl T.lj T.lA T.o5 .nil aK (ae (pv 2) (ae (pv 9) (ae (aV KQ (aL (bu K) (by rfl) T.cF bW (ae (aB (ax K) (pv 8) aj (λ_ _=>rfl)) ag)) aj) ag)))) ie (bD _))))))))))))))))),?_⟩
  have big:(10000:Nat)<=sizeLine:=by decide
  have tJ:(2 ^ 10:Nat)<2 ^ 1000:=Cp (by decide) (by decide)
  have YT:(200:Nat)<2 ^ 20000:=AY (show 200<2 ^ 8 by decide) (BR (by decide) (by decide))
  have small:∀x:Nat,x<=1000->x<2 ^ 1000:=λx hx=>CG (show x<2 ^ 10 by omega) tJ
  have YU:TB a H:=⟨hO.tab (by simp),hO.tab (by simp)⟩
  refine aN λR hR=>?_
  refine⟨_,rfl,sa,ns,rfl,hS,hns,λF L H1 hF hL s1 f1=>?_⟩
  have kr:=YU.same s1
  dsimp only[aJ]
  subst hR
  refine aN λR hR=>?_
  refine⟨_,rfl,F,L,rfl,f1,λwo Dw b kvs ss H2 k2 f2 hb2 hb4 wd nD=>?_⟩
  have tb2:=bK.tb kr f1 k2
  have M0:ss.length=kvs.length:=by have:=congrArg Gg wd.ks;rw[AB,AB] at this;exact this.symm
  have wl:=wd.le
  dsimp only[aJ]
  subst hR
  refine aN λR hR=>?_
  refine⟨_,rfl,wo,_,_,.ref Dw,rfl,rfl,.of wd.wo,au (j:=1) rfl,Dw,kvs,ss,rfl,wd.dw,wd.ks,by omega,λp ss' hp pm so=>?_⟩
  have sp:=Same.new (o:=.lst (ss'.map V.str)) hp
  have nP:=f2.iF hp
  have Ql:=wd.same sp
  have f3:=f2.same sp
  refine⟨_,rfl,_,rfl,wo,_,_,.ref Dw,rfl,rfl,.of Ql.wo,au (j:=1) rfl,Dw,kvs,rfl,Ql.dw,F,L,kvs.length,rfl,f3,wd.pos,small _ (by omega),λr H4 r1 k4 f4=>?_⟩
  have Jr:=Ql.kb2 f3 nD k4
  have tL:=bK.tb (tb2.same sp) f3 k4
  obtain⟨x,hx⟩:∃x,ss'[r]? =some x:=⟨_,As (by rw[pm.length_eq];omega)⟩
  refine⟨p,_,_,.str x,rfl,rfl,.of (k4 _ _ af nP.1 nP.2),au (by rw[AW,hx];rfl),?_⟩
  have hxs:x∈ss:=pm.mem_iff.mp (AL hx)
  obtain⟨qq,hq,hq1,hq2⟩:=Ry (kvs:=kvs) (k:=Av x) (by
   have:(Av x:Key)∈kvs.map (·.1):=by rw[wd.ks];exact A1.mpr ⟨x,hxs,rfl⟩
   obtain⟨q,h1,h2⟩:=A1.mp this
   exact⟨q,h1,h2⟩)
  obtain⟨x',ra,n,sg,mv,eq,ro⟩:=Jr.rows qq hq
  subst eq
  dsimp only[aJ]
  subst hR
  refine aN λR hR=>?_
  refine⟨_,rfl,wo,_,_,.ref Dw,rfl,rfl,.of Jr.wo,au (j:=1) rfl,_,rfl,Dw,.ref ra,rfl,iE (.inl Jr.dw) hq2,?_⟩
  dsimp only[aJ]
  subst hR
  refine aN λR hR=>?_
  refine⟨_,rfl,_,rfl,_,rfl,F,L,4,rfl,f4,by decide,small _ (by decide),λr' H5 r5 k5 f5=>⟨F,L,r',rfl,f5,by omega,λpl pool H6 hpl k6 f6 ow lp Qj zg=>⟨F,L,pl,pool,rfl,f6,ow,by omega,λta t H7 k7 f7 et ot ts sb=>?_⟩⟩⟩
  have Nj:=(k5.trans k6).trans k7
  have Nk:LS a b n F L wo Dw ra ta kvs x t sg mv H7:=⟨bK.tb tL f4 Nj,f7,f4.ktu Nj _ _ Jr.wo,Nj _ _ Jr.dw nD.1 nD.2,nD,hq2,ro.keep (f4.ktu Nj),et,oA.sub zg Qj.once ts ot.1 sb⟩
  clear YU kr tb2 tL f1 f2 f3 f4 f5 f6 f7 k2 k4 k5 k6 k7 Nj wd Ql Jr ro et ow hpl Qj zg sb ts ot s1 hF hL sp hp nP lp r5 hq hq1 hq2 nD
  dsimp only[aJ]
  subst hR
  dsimp only[lJ,xx,tC,aJ]
  refine ji (t:=oI _ _ _) (u:=lJ _ _) (λσ H'=>∃(wo Dw ra ta:Addr) (kvs:List (Key×V)) (n most:Nat) (t:Term) (sg:List Nat) (mv:List (List Nat)),σ=[some (.ref sa),some (.ref F),some (.ref wo),some (.str x),some (.ref ra),some (.ref ta),some (.int (most:Nat)),none,none,none]/\LS a b n F L wo Dw ra ta kvs x t sg mv H'/\1<=most/\most<=2000) ?_ (λR rest=>?_)
  rotate_left
  ·dsimp only[oI]
   refine⟨_,rfl,F,L,6,rfl,Nk.fd,by decide,small _ (by decide),λd1 H8 q1 k8 g8=>⟨rfl,_,rfl,?_⟩⟩
   have zR:=Nk.kb2 k8 g8
   refine cW (λ_=>?_) (λ_=>rest _ _ ⟨wo,Dw,ra,ta,kvs,n,150,t,sg,mv,rfl,zR,by decide,by decide⟩)
   refine aN λR hR=>?_
   refine⟨_,rfl,_,rfl,wo,_,_,.int (b:Nat),rfl,rfl,.of zR.wo,au (j:=0) rfl,F,L,b,rfl,g8,hb2,hb4,λpO zE mv' n' H9 k9 f9 row len n0 n27 cB Vo _=>?_⟩
   have Js:=zR.kb2 k9 f9
   dsimp only[aJ]
   subst hR
   refine aN λR hR=>?_
   refine⟨_,rfl,wo,_,_,.int (b:Nat),rfl,rfl,.of Js.wo,au (j:=0) rfl,λD hD=>⟨_,rfl,_,rfl,af,[(Av x,.ref pO)],rfl,by show 1<=15;decide,by show 2<=sizeLine;decide,λQm Qk=>?_⟩⟩
   have nD':=f9.iF hD
   have eD:bP [] ([(Av x,.ref pO)]:List (Key×V))=[(Av x,.ref pO)]:=rfl
   rw[eD] at Qk ⊢
   have sD:Same H9 (upd (upd H9 D (.dK [])) D (.dK [(Av x,.ref pO)])):=λb o e=>by
    have nb:b≠D:=λz=>by rw[z,hD] at e;cases e
    rw[ao nb,ao nb];exact e
   have sw:=Same.new (o:=.tup [.int (b:Nat),.ref D]) Qk
   have s9:=sD.trans sw
   have ku:LS a b n' F L Qm D pO ta [(Av x,.ref pO)] x t zE mv' _:=⟨Js.tb.same s9,f9.same s9,af,sw _ _ af,nD',bO rfl,(⟨row,len,n0,n27,cB,Vo⟩:nL b n' pO zE mv' H9).keep s9.kt,Js.tm.keep s9.kt,Js.sm⟩
   generalize upd (upd (upd H9 D (.dK [])) D (.dK [(Av x,.ref pO)])) Qm (.tup [.int (b:Nat),.ref D])=SY at ku ⊢
   dsimp only[aJ]
   subst hR
   refine aN λR hR=>?_
   refine⟨_,rfl,F,L,4,rfl,ku.fd,by decide,small _ (by decide),λd2 H11 q2 k11 f11=>?_⟩
   have Vr:=ku.kb2 k11 f11
   obtain⟨kr,tps,t1,t2,t3⟩:=Vr.tm
   refine⟨_,rfl,ta,_,_,.ref kr,rfl,rfl,.of t1,au (j:=1) rfl,?_⟩
   dsimp only[Ip,Pp,tC]
   refine⟨1,rfl,Vp t2 λtq H12 s12 MF=>⟨by show 2<=sizeLine;decide,λtn htn=>?_⟩⟩
   have st:=Same.new (o:=.tup [.int (d2:Nat),.ref tq]) htn
   have pP:=Vr.same (s12.trans st)
   have Z0:LS a b n' F L Qm D pO tn [(Av x,.ref pO)] x ⟨(d2:Int),t.parts.take 1⟩ zE mv' _:=⟨pP.tb,pP.fd,pP.wo,pP.dw,pP.ne,pP.at',pP.row,⟨tq,tps.take 1,af,st _ _ MF,pM.keep (Jq 1 t3) (s12.trans st).kt⟩,pP.sm.cut (by omega) (by omega)⟩
   dsimp only[aJ]
   subst hR
   exact rest _ _ ⟨Qm,D,pO,tn,_,n',600,_,zE,mv',rfl,Z0,by decide,by decide⟩
  clear Nk hxs hx pm so M0 wl kvs wo Dw ra ta t n sg mv ss ss' pool x' r1
  rintro σ H1 ⟨wo,Dw,ra,ta,kvs,n,most,t,sg,mv,rfl,f',hm1,hm2⟩
  refine aN λR hR=>?_
  obtain⟨Qn,ma,mps,r1,r2,r3,r4⟩:=f'.row.row
  have P9:=f'.row.len
  have n27:=f'.row.few
  refine⟨_,rfl,ra,_,_,.ref Qn,rfl,rfl,.of r1,au (j:=0) rfl,_,rfl,F,L,10,rfl,f'.fd,by decide,small _ (by decide),λd H2 d1 k2 f2=>⟨by show 1<=sizeLine;decide,λp1 hp1=>?_⟩⟩
  have zS:=f'.kb2 k2 f2
  have Qo:=Same.new (o:=.tup [.int (d:Nat)]) hp1
  have Jo:=f'.fd.ktu k2
  refine⟨Qn,p1,_,_,rfl,rfl,Qo _ _ (Jo _ _ r2),af,by rw[AB,bL];show sg.length+1<=sizeLine;omega,λu H3 s3 eu=>?_⟩
  have qz:=(zS.same Qo).same s3
  have MW:aW H1 H3:=λb ys z=>s3 _ _ (Qo _ _ (Jo _ _ z))
  refine⟨_,rfl,_,rfl,ra,_,_,.ref Qn,rfl,rfl,.of (MW _ _ r1),au (j:=0) rfl,.ref Qn,sg.length,rfl,.inr ⟨_,.of (MW _ _ r2),by rw[AB,bL]⟩,_,_,rfl,rfl,F,L,sg.length+1,by rw[show((sg.length+1:Nat):Int)=(sg.length:Int)+1 by omega];rfl,qz.fd,by omega,small _ (by omega),λj H4 j1 k4 f4=>?_⟩
  have Qp:=qz.kb2 k4 f4
  have Vs:=qz.fd.ktu k4 _ _ eu
  have YV:(aD sg).map V.int++[V.int (d:Nat)]=(aD (sg++[d])).map V.int:=by rw[cL,AJ];rfl
  rw[YV] at Vs
  refine⟨u,_,_,.int ((sg++[d]).getD j 0:Nat),rfl,rfl,.of Vs,au (cU (by rw[AG];exact j1)),?_⟩
  generalize (sg++[d]).getD j 0=sn
  clear f' zS qz Qo Jo MW k2 k4 Vs YV s3 hp1 eu r1 r2 r3 r4 f2 f4
  dsimp only[aJ]
  subst hR
  refine ji (t:=oI _ _ _) (u:=lJ _ _) (λσ H'=>∃(ta:Addr) (most:Nat) (t:Term),σ=[some (.ref sa),some (.ref F),some (.ref wo),some (.str x),some (.ref ra),some (.ref ta),some (.int (most:Nat)),some (.int (sn:Nat)),none,none]/\LS a b n F L wo Dw ra ta kvs x t sg mv H'/\1<=most/\most<=2000) ?_ (λR rest=>?_)
  rotate_left
  ·dsimp only[oI]
   refine⟨_,rfl,rfl,_,rfl,?_⟩
   refine cW (λ_=>?_) (λ_=>dP (rest _ _ ⟨ta,most,t,rfl,Qp,hm1,hm2⟩))
   refine⟨_,rfl,F,L,8,rfl,Qp.fd,by decide,small _ (by decide),λd1 H8 q1 k8 g8=>⟨rfl,_,rfl,?_⟩⟩
   have zR:=Qp.kb2 k8 g8
   refine cW (λ_=>?_) (λ_=>rest _ _ ⟨ta,most,t,rfl,zR,hm1,hm2⟩)
   refine aN λR hR=>?_
   refine⟨_,rfl,F,L,9,rfl,zR.fd,by decide,small _ (by decide),λd2 H9 q2 k9 f9=>⟨_,_,rfl,rfl,by show 2<=sizeLine;decide,λp1 hp1=>⟨by show 1<=sizeLine;decide,λp2 hp2=>⟨by show 2<=sizeLine;decide,λp3 hp3=>?_⟩⟩⟩⟩
   have Js:=zR.kb2 k9 f9
   have s1:=Same.new (o:=.tup [.str "n",.int 9]) hp1
   have s2:=Same.new (o:=.tup [.ref p1]) hp2
   have s3:=Same.new (o:=.tup [.int (99-(d2:Int)),.ref p2]) hp3
   have ku:=Js.same ((s1.trans s2).trans s3)
   have tq:oA ⟨99-(d2:Int),[("n",9)]⟩:=⟨⟨by show(0:Int)<=99-(d2:Int);omega,by show 99-(d2:Int)<=(99:Int);omega,λq hq=>by rw[AR.mp hq];exact⟨by decide,by decide⟩⟩,by show 1<=3;decide,rfl,by show A3 [("n":Str)];simp⟩
   dsimp only[aJ]
   subst hR
   exact rest _ _ ⟨p3,2000,⟨99-(d2:Int),[("n",9)]⟩,rfl,⟨ku.tb,ku.fd,ku.wo,ku.dw,ku.ne,ku.at',ku.row,⟨p2,[p1],af,s3 _ _ af,.cons ((s2.trans s3) _ _ af) .nil⟩,tq⟩,by decide,by decide⟩
  clear Qp ta t hm1 hm2 most
  rintro σ H1 ⟨ta,most,t,rfl,f',hm1,hm2⟩
  have hn0:=f'.sm.sm.1
  have hn9:=f'.sm.sm.2.1
  have few:=f'.sm.few
  obtain⟨c,hc⟩:∃c:Nat,t.num=(c:Int):=⟨t.num.toNat,by omega⟩
  have hks:(t.parts.map (·.1)).length=t.parts.length:=AB _
  have hB4:b ^ (t.parts.map (·.1)).length<=256:=d4 hb4 (by omega)
  have ask:∀{H':Hp} {sy:Addr} (most:Nat) {Q':VK} {E':XK},LS a b n F L wo Dw ra ta kvs x t sg mv H'->H' sy=some (.tup [.str "sign",.str x,.ref ta,.int (sn:Nat)])->most<=10000->
    (∀(xs:List (List Nat)) (mN:Hp),KX a H' mN->TB a mN->xs.Nodup->(∀p∈xs,∃w,dJ (b ^ (t.parts.map (·.1)).length) w/\p=fz (tF b mv t (t.parts.map (·.1))) [0,c] w)->most<xs.length->Q' .non mN)->
    (∀(p n:Addr) (xs mw:List (List Nat)) (mN:Hp),KX a H' mN->TB a mN->sH mN p n (xs.map (kq b sg mv (sn:Nat))) mw->mN n=some (.tup ((t.parts.map (·.1)).map V.str))->mw.length=xs.length->xs.length<=most->cn [0,c] (tF b mv t (t.parts.map (·.1))) (b ^ (t.parts.map (·.1)).length) xs mw->Q' (.ref p) mN)->
    rB a [.ref wo,.ref sy,.int (most:Nat)] H' Q' E':=by
   intro H' sy most Q' E' ls es hm h1 h2
   refine⟨b,n,200,most,wo,Dw,sy,ra,ta,kvs,x,t,_,sg,mv,t.parts.map (·.1),rfl,hb2,hb4,⟨ls.wo,.inl ls.dw,ls.at',ls.row.row,ls.row.len,ls.row.pos,ls.row.cB,es,ls.tm,by omega,⟨c,hc,by omega⟩,YT⟩,λks hk=>zN hb4 ls.sm.sm hk,ls.sm.over,by omega,hm,ls.tb,λks xs c' mN k tb fr hc' nd rc lt=>?_,λks p nm xs c' mw mN k tb fr hc' oz en hl hle gr=>?_⟩
   ·cases fr.uniq (ls.sm.free x _)
    cases Int.ofNat.inj (hc'.symm.trans hc)
    exact h1 xs mN k tb nd rc lt
   ·cases fr.uniq (ls.sm.free x _)
    cases Int.ofNat.inj (hc'.symm.trans hc)
    exact h2 p nm xs mw mN k tb oz en hl hle gr
  refine aN λR hR=>?_
  refine⟨_,rfl,wo,_,_,.int (b:Nat),rfl,rfl,.of f'.wo,au (j:=0) rfl,_,rfl,_,rfl,_,rfl,_,rfl,b,n,200,most,c,ra,ta,t,_,sg,mv,rfl,hb2,hb4,f'.row.row,f'.row.len,f'.row.pos,f'.row.cB,f'.tm,by omega,f'.sm.nd,hc,by omega,zN hb4 f'.sm.sm (by omega),YT,hm1,by omega,f'.tb,λxs H2 k2 tb2 PD rc2 lt2=>?_,λp N Yy va ps xs mw H2 k2 tb2 ep eN eY ev tp hl hle gr=>?_⟩
  ·
   have zS:=f'.kx k2 tb2
   dsimp only[aJ]
   subst hR
   refine aN λR hR=>?_
   refine⟨_,rfl,_,rfl,_,rfl,by show 4<=sizeLine;decide,λsy Qq=>?_⟩
   have ss:=Same.new (o:=.tup [.str "sign",.str x,.ref ta,.int (sn:Nat)]) Qq
   have qz:=zS.same ss
   dsimp only[aJ]
   subst hR
   refine aN λR hR=>?_
   refine⟨_,rfl,rfl,_,rfl,?_⟩
   refine cW (λ_=>?_) (λz=>absurd rfl z)
   refine⟨_,rfl,_,rfl,_,rfl,?_⟩
   dsimp only[rJ,tC,xB,BS]
   refine ask most qz af (by omega) (λys H4 k4 tL YW YX YY=>⟨rfl,q H4⟩) (λp n ys mv H4 k4 tL oz M' Qr Vt Qs=>?_)
   have:=tM Qs Qr PD rc2
   omega
  ·
   have zS:=f'.kx k2 tb2
   have lx0:0<xs.length:=Nd gr
   have cB:=gr.cB hl
   have Z1:∀l∈mw,l.length<=3000:=λl hl=>by rw[(cB.lead l hl).1];omega
   have tooMany:∀{ys:List (List Nat)} {m:Nat},xs.length<=m->ys.Nodup->(∀p∈ys,∃w,dJ (b ^ (t.parts.map (·.1)).length) w/\p=fz (tF b mv t (t.parts.map (·.1))) [0,c] w)->m<ys.length->False:=λ{ys m} h1 h2 h3 h4=>by
    have:=tM gr hl h2 h3
    omega
   dsimp only[aJ]
   subst hR
   refine aN λR hR=>?_
   refine⟨_,rfl,_,rfl,_,rfl,by show 4<=sizeLine;decide,λsy Qq=>?_⟩
   have ss:=Same.new (o:=.tup [.str "sign",.str x,.ref ta,.int (sn:Nat)]) Qq
   have qz:=zS.same ss
   have Qt:(upd H2 sy (.tup [.str "sign",.str x,.ref ta,.int (sn:Nat)])) sy=some (.tup [.str "sign",.str x,.ref ta,.int (sn:Nat)]):=af
   have vL:=ss _ _ ep
   have ti:=ss _ _ eN
   have Qu:=ss _ _ eY
   have vM:=ss _ _ ev
   have pC:=tp.keep ss.kt
   generalize upd H2 sy (.tup [.str "sign",.str x,.ref ta,.int (sn:Nat)])=H3 at qz Qt vL ti Qu vM pC ⊢
   have Nl:∀{H':Hp} {p' n:Addr},KX a H3 H'->sH H' p' n (xs.map (kq b sg mv (sn:Nat))) mw->H' n=some (.tup ((t.parts.map (·.1)).map V.str))->Tr H' 4 (.ref p') (.ref p):=λ{H' p' n} k oz en'=>by
    obtain⟨y',v',ps',e1,e2,e3,e4⟩:=oz
    exact R_ e1 (k.kt _ _ vL) en' (k.kt _ _ ti) e2 (k.kt _ _ Qu) e3 (k.kt _ _ vM) e4 (pC.keep k.kt) (by omega) (by rw[AB];omega) (by omega) Z1
   clear ep eN eY ev tp ss Qq zS f' k2 tb2
   dsimp only[aJ]
   subst hR
   refine aN λR hR=>?_
   refine⟨_,rfl,rfl,_,rfl,?_⟩
   refine cW (λz=>absurd z (by simp)) (λ_=>?_)
   dsimp only[jH]
   subst hR
   refine aN λR hR=>?_
   refine⟨_,rfl,_,rfl,?_⟩
   dsimp only[rJ,tC,xB,Ff,List.nil_append]
   refine ask 2000 qz Qt (by decide) (λys H4 k4 tL YW YX YY=>(tooMany (by omega) YW YX YY).elim) (λp' n ys mz H4 k4 tL oz M' Qr Vt Qs=>?_)
   obtain⟨e1,e2⟩:=nR Qs Qr gr hl
   subst e1 e2
   refine⟨_,rfl,_,_,rfl,Nl k4 oz M',λH5 s5=>⟨true,rfl,dP ?_⟩⟩
   have k5:=k4.trans (KX.same (a:=a) s5)
   have YZ:=(qz.kx k4 tL).same s5
   clear oz M' Qs Vt Qr
   refine⟨_,rfl,_,rfl,_,rfl,p,_,_,.ref Yy,rfl,rfl,.of (k5.kt _ _ vL),au (j:=1) rfl,.ref Yy,ys.length,rfl,.inr ⟨_,.of (k5.kt _ _ Qu),by rw[AB,AB]⟩,?_⟩
   dsimp only[rJ,tC,xB,BS]
   refine ask ys.length YZ (k5.kt _ _ Qt) (by omega) (λzs H6 k6 Y_ Na Qh P2=>(tooMany (by omega) Na Qh P2).elim) (λp' n zs my H6 k6 Y_ oz en6 hl6 ahc gr6=>?_)
   obtain⟨e1,e2⟩:=nR gr6 hl6 gr hl
   subst e1 e2
   refine⟨_,rfl,_,_,rfl,Nl (k5.trans k6) oz en6,λH7 s7=>⟨true,rfl,dP ?_⟩⟩
   have k7:=k5.trans (k6.trans (KX.same (a:=a) s7))
   have Nk:=(YZ.kx k6 Y_).same s7
   dsimp only[jH]
   subst hR
   have el1:((zs.length:Nat):Int)-1=((zs.length-1:Nat):Int):=by omega
   refine⟨_,rfl,_,rfl,_,rfl,p,_,_,.ref Yy,rfl,rfl,.of (k7.kt _ _ vL),au (j:=1) rfl,.ref Yy,zs.length,rfl,.inr ⟨_,.of (k7.kt _ _ Qu),by rw[AB,AB]⟩,_,_,rfl,rfl,?_⟩
   dsimp only[rJ,tC,xB,BS]
   rw[el1]
   refine ask (zs.length-1) Nk (k7.kt _ _ Qt) (by omega) (λws H8 k8 tb8 nd8 rc8 lt8=>⟨rfl,q H8⟩) (λp' n ws mx H8 k8 tb8 oz en8 hl8 ahd gr8=>?_)
   obtain⟨e1,e2⟩:=nR gr8 hl8 gr hl
   subst e1 e2
   omega
end
end My
namespace My
open PySem L2
@[elab_as_elim] theorem mh {P:List Value->Prop} (us:List Value) (e:us.length=1) (h:∀a,P [a]):P us:=by
 cases us with
 | nil=>cases e
 | cons a us=>cases us with
  | nil=>exact h a
  | cons _ _=>cases e
@[elab_as_elim] theorem ln2 {P:List Value->Prop} (us:List Value) (e:us.length=2) (h:∀a0 a1,P [a0,a1]):P us:=by
 cases us with
 | nil=>cases e
 | cons a us=>exact mh (P:=λz=>P (a::z)) us (DY e) (h a)
@[elab_as_elim] theorem pQ {P:List Value->Prop} (us:List Value) (e:us.length=3) (h:∀a0 a1 a2,P [a0,a1,a2]):P us:=by
 cases us with
 | nil=>cases e
 | cons a us=>exact ln2 (P:=λz=>P (a::z)) us (DY e) (h a)
@[elab_as_elim] theorem Jt {P:List Value->Prop} (us:List Value) (e:us.length=4) (h:∀a0 a1 a2 a3,P [a0,a1,a2,a3]):P us:=by
 cases us with
 | nil=>cases e
 | cons a us=>exact pQ (P:=λz=>P (a::z)) us (DY e) (h a)
@[elab_as_elim] theorem Vu {P:List Value->Prop} (us:List Value) (e:us.length=5) (h:∀a0 a1 a2 a3 a4,P [a0,a1,a2,a3,a4]):P us:=by
 cases us with
 | nil=>cases e
 | cons a us=>exact Jt (P:=λz=>P (a::z)) us (DY e) (h a)
@[elab_as_elim] theorem ln6 {P:List Value->Prop} (us:List Value) (e:us.length=6) (h:∀a0 a1 a2 a3 a4 a5,P [a0,a1,a2,a3,a4,a5]):P us:=by
 cases us with
 | nil=>cases e
 | cons a us=>exact Vu (P:=λz=>P (a::z)) us (DY e) (h a)
theorem all_mk{l:GH}{w:World}{K:AD}{h:Heap}{mg:Str->Option Value}{fa:Addr}(X:K.In h)(G:h.Ns AU mg)(hfa:mg "law"=some (.ref fa))
  {f0:Addr} {od0 an0:Option Addr} {X8:Array (Option Value)} {oc0 kV0 dc0 pm0 ct0:Value} {Y0:Value}
  {f1:Addr} {od1 an1:Option Addr} {sl1:Array (Option Value)} {oc1 kV1 dc1 pm1 ct1:Value} {Y1:Value}
  {f2:Addr} {od2 an2:Option Addr} {sl2:Array (Option Value)} {oc2 kV2 dc2 pm2 ct2:Value} {Y4:Value}
  {f3:Addr} {od3 Vv:Option Addr} {sl3:Array (Option Value)} {oc3 Vw Vx Vy Vz:Value} {Nm:Addr}
  {Ju dn3:Nat} {Z2:Value} {Z3:Option Addr} {VA:Tok} {Z4:Array (Option Value)}
  {f4:Addr} {od4 an4:Option Addr} {sl4:Array (Option Value)} {oc4 kV4 dc4 pm4 ct4:Value} {Y5:Value}
  {f5:Addr} {od5 an5:Option Addr} {sl5:Array (Option Value)} {oc5 kV5 dc5 pm5 ct5:Value} {Y6:Value}
  {f6:Addr} {od6 an6:Option Addr} {sl6:Array (Option Value)} {oc6 kV6 dc6 pm6 ct6:Value} {Y7:Value}
  {f7:Addr} {od7 an7:Option Addr} {sl7:Array (Option Value)} {oc7 kV7 dc7 pm7 ct7:Value} {Y8:Value}
  {f8:Addr} {od8 an8:Option Addr} {sl8:Array (Option Value)} {oc8 kV8 dc8 pm8 ct8:Value} {Y9:Value}
  {f9:Addr} {od9 an9:Option Addr} {sl9:Array (Option Value)} {oc9 kV9 dc9 pm9 ct9:Value} {Y':Value}
  {Qv:Addr} {Z5 Z6:Option Addr} {Z7:Array (Option Value)} {Z8 Z9 Z' aac aad:Value} {VB:Value}
  {f11:Addr} {aae aaf:Option Addr} {aag:Array (Option Value)} {aah aai aaj aak aal:Value} {VC:Value}
  {Qw:Addr} {aam aan:Option Addr} {aao:Array (Option Value)} {aap aaq aar aas aat:Value} {VD:Value}
  {Qx:Addr} {aau aav:Option Addr} {aaw:Array (Option Value)} {aax aay aaz aaA aaB:Value} {VE:Value}
  {Qy:Addr} {aaC aaD:Option Addr} {aaE:Array (Option Value)} {aaF aaG aaH aaI aaJ:Value} {VF:Value}
  {Qz:Addr} {aaK aaL:Option Addr} {aaM:Array (Option Value)} {aaN aaO aaP aaQ aaR:Value} {VG:Value}
  {QA:Addr} {aaS aaT:Option Addr} {aaU:Array (Option Value)} {aaV aaW aaX aaY aaZ:Value} {VH:Value}
  {QB:Addr} {aa_ VI:Option Addr} {aa0:Array (Option Value)} {aa1 VJ VL VM VN:Value} {uG:Addr}
  {ky:Addr} {Xm:Option Addr} {nS:Array Value} {Xn:Array (Option Value)}
  {QC:Addr} {aa2 VO:Option Addr} {aa3:Array (Option Value)} {aa4 VP VQ VR VS:Value} {uH:Addr}
  {kz:Addr} {Xo:Option Addr} {nT:Array Value} {Xp:Array (Option Value)}
  {QD:Addr} {aa5 aa6:Option Addr} {aa7:Array (Option Value)} {aa8 aa9 aa' abb abd:Value} {VT:Value}
  {QE:Addr} {abe abf:Option Addr} {abg:Array (Option Value)} {abh abi abj abk abl:Value} {VU:Value}
  {QF:Addr} {abm VW:Option Addr} {abn:Array (Option Value)} {abo VX VY VZ V_:Value} {uI:Addr}
  {kD:Addr} {Xq:Option Addr} {nV:Array Value} {Xr:Array (Option Value)}
  {QG:Addr} {abp V0:Option Addr} {abq:Array (Option Value)} {abr V1 V2 V3 V4:Value} {uJ:Addr}
  {kE:Addr} {Xs:Option Addr} {nW:Array Value} {Xt:Array (Option Value)}
  {QH:Addr} {abt abu:Option Addr} {abv:Array (Option Value)} {abw abx aby abz abA:Value} {V5:Value}
  {QI:Addr} {abB O9:Option Addr} {abC:Array (Option Value)} {abD O' Pa Pb Pc:Value} {zT:Addr}
  {uK abE:Nat} {Xu:Value} {Xv:Option Addr} {QJ:Tok} {Xw:Array (Option Value)}
  {QK:Addr} {abF abG:Option Addr} {abH:Array (Option Value)} {abI abJ abK abL abM:Value} {V6:Value}
  {QL:Addr} {abN abO:Option Addr} {abP:Array (Option Value)} {abQ abR abS abT abU:Value} {V7:Value}
  {QM:Addr} {abV abW:Option Addr} {abX:Array (Option Value)} {abY abZ ab_ ab0 ab1:Value} {V8:Value}
  {QN:Addr} {ab2 ab3:Option Addr} {ab4:Array (Option Value)} {ab5 ab6 ab7 ab8 ab9:Value} {V9:Value}
  {QO:Addr} {ab' aca:Option Addr} {acb:Array (Option Value)} {acd ace acf acg ach:Value} {V':Value}
  {QP:Addr} {aci acj:Option Addr} {ack:Array (Option Value)} {acm acn aco acp acq:Value} {Wa:Value}
  {QQ:Addr} {acr acs:Option Addr} {acu:Array (Option Value)} {acv acw acx acy acz:Value} {Wb:Value}
  {f32:Addr} {acA acB:Option Addr} {acC:Array (Option Value)} {acD acE acF acG acH:Value} {Wc:Value}
  {QR:Addr} {acI acJ:Option Addr} {acK:Array (Option Value)} {acL acM acN acO acP:Value} {Wd:Value}
  {QS:Addr} {acQ acR:Option Addr} {acS:Array (Option Value)} {acT acU acV acW acX:Value} {Wf:Value}
  {QT:Addr} {acY acZ:Option Addr} {ac_:Array (Option Value)} {ac0 ac1 ac2 ac3 ac4:Value} {Wg:Value}
  {QU:Addr} {ac5 ac6:Option Addr} {ac7:Array (Option Value)} {ac8 ac9 ac' ada adb:Value} {Wh:Value}
  {QV:Addr} {ade Wi:Option Addr} {adf:Array (Option Value)} {adg Wj Wk Wl Wm:Value} {uL:Addr}
  {kG:Addr} {Xx:Option Addr} {nX:Array Value} {Xy:Array (Option Value)}
  {QW:Addr} {adh adi:Option Addr} {adj:Array (Option Value)} {adk adl adn ado adp:Value} {Wn:Value}
  {Wo:Addr} {adq Wq:Option Addr} {ads:Array (Option Value)} {adt Wr Ws Wu Wv:Value} {Pd:Value}
  (a0:AQ K AU "figures_of"=some (some (.ref f0))) (l0:K.lookup f0=some ⟨oc0,od0,.func (Aa "figures_of" "figures_of" (aE eP) (aC eP) (ah eP) .none kV0 dc0 pm0 an0 Y0 ct0),X8⟩) (c0:Af K Y0 "figures_of"=true) (k0:AK K (.ref f0)=true)
  (a1:AQ K AU "all_letters"=some (some (.ref f1))) (l1:K.lookup f1=some ⟨oc1,od1,.func (Aa "all_letters" "all_letters" (aE c_) (aC c_) (ah c_) .none kV1 dc1 pm1 an1 Y1 ct1),sl1⟩) (c1:Af K Y1 "all_letters"=true) (k1:AK K (.ref f1)=true)
  (a2:AQ K AU "room_after"=some (some (.ref f2))) (l2:K.lookup f2=some ⟨oc2,od2,.func (Aa "room_after" "room_after" (aE eQ) (aC eQ) (ah eQ) .none kV2 dc2 pm2 an2 Y4 ct2),sl2⟩) (c2:Af K Y4 "room_after"=true) (k2:AK K (.ref f2)=true)
  (a3:AQ K AU "grown_from"=some (some (.ref f3))) (l3:K.lookup f3=some ⟨oc3,od3,.func (Aa "grown_from" "grown_from" (aE bQ) (aC bQ) (ah bQ) (.ref Ju) Vw Vx Vy Vv (.ref Nm) Vz),sl3⟩) (c3:Af K (.ref Nm) "grown_from"=true) (k3:AK K (.ref f3)=true)
  (ld3:K.lookup Ju=some ⟨Z2,Z3,.seq #[(.int 2000 VA)] dn3,Z4⟩)
  (a4:AQ K AU "machine_of"=some (some (.ref f4))) (l4:K.lookup f4=some ⟨oc4,od4,.func (Aa "machine_of" "machine_of" (aE eS) (aC eS) (ah eS) .none kV4 dc4 pm4 an4 Y5 ct4),sl4⟩) (c4:Af K Y5 "machine_of"=true) (k4:AK K (.ref f4)=true)
  (a5:AQ K AU "inner_parts"=some (some (.ref f5))) (l5:K.lookup f5=some ⟨oc5,od5,.func (Aa "inner_parts" "inner_parts" (aE da) (aC da) (ah da) .none kV5 dc5 pm5 an5 Y6 ct5),sl5⟩) (c5:Af K Y6 "inner_parts"=true) (k5:AK K (.ref f5)=true)
  (a6:AQ K AU "term_names"=some (some (.ref f6))) (l6:K.lookup f6=some ⟨oc6,od6,.func (Aa "term_names" "term_names" (aE dF) (aC dF) (ah dF) .none kV6 dc6 pm6 an6 Y7 ct6),sl6⟩) (c6:Af K Y7 "term_names"=true) (k6:AK K (.ref f6)=true)
  (a7:AQ K AU "parts_in_order"=some (some (.ref f7))) (l7:K.lookup f7=some ⟨oc7,od7,.func (Aa "parts_in_order" "parts_in_order" (aE cQ) (aC cQ) (ah cQ) .none kV7 dc7 pm7 an7 Y8 ct7),sl7⟩) (c7:Af K Y8 "parts_in_order"=true) (k7:AK K (.ref f7)=true)
  (a8:AQ K AU "told_of_parts"=some (some (.ref f8))) (l8:K.lookup f8=some ⟨oc8,od8,.func (Aa "told_of_parts" "told_of_parts" (aE cE) (aC cE) (ah cE) .none kV8 dc8 pm8 an8 Y9 ct8),sl8⟩) (c8:Af K Y9 "told_of_parts"=true) (k8:AK K (.ref f8)=true)
  (a9:AQ K AU "names_over"=some (some (.ref f9))) (l9:K.lookup f9=some ⟨oc9,od9,.func (Aa "names_over" "names_over" (aE dG) (aC dG) (ah dG) .none kV9 dc9 pm9 an9 Y' ct9),sl9⟩) (c9:Af K Y' "names_over"=true) (k9:AK K (.ref f9)=true)
  (a10:AQ K AU "names_by_place"=some (some (.ref Qv))) (l10:K.lookup Qv=some ⟨Z8,Z5,.func (Aa "names_by_place" "names_by_place" (aE cR) (aC cR) (ah cR) .none Z9 Z' aac Z6 VB aad),Z7⟩) (c10:Af K VB "names_by_place"=true) (k10:AK K (.ref Qv)=true)
  (a11:AQ K AU "free_names"=some (some (.ref f11))) (l11:K.lookup f11=some ⟨aah,aae,.func (Aa "free_names" "free_names" (aE eU) (aC eU) (ah eU) .none aai aaj aak aaf VC aal),aag⟩) (c11:Af K VC "free_names"=true) (k11:AK K (.ref f11)=true)
  (a12:AQ K AU "times_of"=some (some (.ref Qw))) (l12:K.lookup Qw=some ⟨aap,aam,.func (Aa "times_of" "times_of" (aE ft) (aC ft) (ah ft) .none aaq aar aas aan VD aat),aao⟩) (c12:Af K VD "times_of"=true) (k12:AK K (.ref Qw)=true)
  (a13:AQ K AU "sum_of"=some (some (.ref Qx))) (l13:K.lookup Qx=some ⟨aax,aau,.func (Aa "sum_of" "sum_of" (aE g_) (aC g_) (ah g_) .none aay aaz aaA aav VE aaB),aaw⟩) (c13:Af K VE "sum_of"=true) (k13:AK K (.ref Qx)=true)
  (a14:AQ K AU "letter_sums"=some (some (.ref Qy))) (l14:K.lookup Qy=some ⟨aaF,aaC,.func (Aa "letter_sums" "letter_sums" (aE dc) (aC dc) (ah dc) .none aaG aaH aaI aaD VF aaJ),aaE⟩) (c14:Af K VF "letter_sums"=true) (k14:AK K (.ref Qy)=true)
  (a15:AQ K AU "differences"=some (some (.ref Qz))) (l15:K.lookup Qz=some ⟨aaN,aaK,.func (Aa "differences" "differences" (aE fE) (aC fE) (ah fE) .none aaO aaP aaQ aaL VG aaR),aaM⟩) (c15:Af K VG "differences"=true) (k15:AK K (.ref Qz)=true)
  (a16:AQ K AU "same_onward"=some (some (.ref QA))) (l16:K.lookup QA=some ⟨aaV,aaS,.func (Aa "same_onward" "same_onward" (aE fF) (aC fF) (ah fF) .none aaW aaX aaY aaT VH aaZ),aaU⟩) (c16:Af K VH "same_onward"=true) (k16:AK K (.ref QA)=true)
  (a17:AQ K AU "same_growth"=some (some (.ref QB))) (l17:K.lookup QB=some ⟨aa1,aa_,.func (Aa "same_growth" "same_growth" (aE cu) (aC cu) (ah cu) .none VJ VL VM VI (.ref uG) VN),aa0⟩) (c17:Af K (.ref uG) "same_growth"=true) (k17:AK K (.ref QB)=true)
  (lc17:K.lookup uG=some ⟨.type "code",Xm,.fields nS,Xn⟩) (lv17:nS[11]? =some (.ref ky))
  (le17:((match (nS[11]? :Option Value) with | some (.ref P')=>P' == ky | _=>false)&&(match nS.getD 18 .none with | .str _ _=>true | _=>false)&&(match nS.getD 7 .none with | .int _ _=>true | _=>false)&&(match nS.getD 9 .none with | .bool _=>true | _=>false)&&(match nS.getD 10 .none with | .int _ _=>true | _=>false)&&uG != ky)=true)
  (ln17:K.lookup ky=none) (lt17:h.get? ky=some (Ba #[]))
  (a18:AQ K AU "less_growth"=some (some (.ref QC))) (l18:K.lookup QC=some ⟨aa4,aa2,.func (Aa "less_growth" "less_growth" (aE cv) (aC cv) (ah cv) .none VP VQ VR VO (.ref uH) VS),aa3⟩) (c18:Af K (.ref uH) "less_growth"=true) (k18:AK K (.ref QC)=true)
  (lc18:K.lookup uH=some ⟨.type "code",Xo,.fields nT,Xp⟩) (lv18:nT[11]? =some (.ref kz))
  (le18:((match (nT[11]? :Option Value) with | some (.ref P')=>P' == kz | _=>false)&&(match nT.getD 18 .none with | .str _ _=>true | _=>false)&&(match nT.getD 7 .none with | .int _ _=>true | _=>false)&&(match nT.getD 9 .none with | .bool _=>true | _=>false)&&(match nT.getD 10 .none with | .int _ _=>true | _=>false)&&uH != kz)=true)
  (ln18:K.lookup kz=none) (lt18:h.get? kz=some (Ba #[]))
  (a19:AQ K AU "row_onward"=some (some (.ref QD))) (l19:K.lookup QD=some ⟨aa8,aa5,.func (Aa "row_onward" "row_onward" (aE eV) (aC eV) (ah eV) .none aa9 aa' abb aa6 VT abd),aa7⟩) (c19:Af K VT "row_onward"=true) (k19:AK K (.ref QD)=true)
  (a20:AQ K AU "sign_from"=some (some (.ref QE))) (l20:K.lookup QE=some ⟨abh,abe,.func (Aa "sign_from" "sign_from" (aE fI) (aC fI) (ah fI) .none abi abj abk abf VU abl),abg⟩) (c20:Af K VU "sign_from"=true) (k20:AK K (.ref QE)=true)
  (a21:AQ K AU "sign_growth"=some (some (.ref QF))) (l21:K.lookup QF=some ⟨abo,abm,.func (Aa "sign_growth" "sign_growth" (aE bB) (aC bB) (ah bB) .none VX VY VZ VW (.ref uI) V_),abn⟩) (c21:Af K (.ref uI) "sign_growth"=true) (k21:AK K (.ref QF)=true)
  (lc21:K.lookup uI=some ⟨.type "code",Xq,.fields nV,Xr⟩) (lv21:nV[11]? =some (.ref kD))
  (le21:((match (nV[11]? :Option Value) with | some (.ref P')=>P' == kD | _=>false)&&(match nV.getD 18 .none with | .str _ _=>true | _=>false)&&(match nV.getD 7 .none with | .int _ _=>true | _=>false)&&(match nV.getD 9 .none with | .bool _=>true | _=>false)&&(match nV.getD 10 .none with | .int _ _=>true | _=>false)&&uI != kD)=true)
  (ln21:K.lookup kD=none) (lt21:h.get? kD=some (Ba #[]))
  (a22:AQ K AU "alike_growth"=some (some (.ref QG))) (l22:K.lookup QG=some ⟨abr,abp,.func (Aa "alike_growth" "alike_growth" (aE bZ) (aC bZ) (ah bZ) .none V1 V2 V3 V0 (.ref uJ) V4),abq⟩) (c22:Af K (.ref uJ) "alike_growth"=true) (k22:AK K (.ref QG)=true)
  (lc22:K.lookup uJ=some ⟨.type "code",Xs,.fields nW,Xt⟩) (lv22:nW[11]? =some (.ref kE))
  (le22:((match (nW[11]? :Option Value) with | some (.ref P')=>P' == kE | _=>false)&&(match nW.getD 18 .none with | .str _ _=>true | _=>false)&&(match nW.getD 7 .none with | .int _ _=>true | _=>false)&&(match nW.getD 9 .none with | .bool _=>true | _=>false)&&(match nW.getD 10 .none with | .int _ _=>true | _=>false)&&uJ != kE)=true)
  (ln22:K.lookup kE=none) (lt22:h.get? kE=some (Ba #[]))
  (a23:AQ K AU "atom_growth"=some (some (.ref QH))) (l23:K.lookup QH=some ⟨abw,abt,.func (Aa "atom_growth" "atom_growth" (aE dR) (aC dR) (ah dR) .none abx aby abz abu V5 abA),abv⟩) (c23:Af K V5 "atom_growth"=true) (k23:AK K (.ref QH)=true)
  (a24:AQ K AU "atom_of"=some (some (.ref QI))) (l24:K.lookup QI=some ⟨abD,abB,.func (Aa "atom_of" "atom_of" (aE cK) (aC cK) (ah cK) (.ref uK) O' Pa Pb O9 (.ref zT) Pc),abC⟩) (c24:Af K (.ref zT) "atom_of"=true) (k24:AK K (.ref QI)=true)
  (ld24:K.lookup uK=some ⟨Xu,Xv,.seq #[(.int 2000 QJ)] abE,Xw⟩)
  (a25:AQ K AU "_law_feed"=some (some (.ref QK))) (l25:K.lookup QK=some ⟨abI,abF,.func (Aa "_law_feed" "_law_feed" (aE g0) (aC g0) (ah g0) .none abJ abK abL abG V6 abM),abH⟩) (c25:Af K V6 "_law_feed"=true) (k25:AK K (.ref QK)=true)
  (a26:AQ K AU "_law_draw"=some (some (.ref QL))) (l26:K.lookup QL=some ⟨abQ,abN,.func (Aa "_law_draw" "_law_draw" (aE iS) (aC iS) (ah iS) .none abR abS abT abO V7 abU),abP⟩) (c26:Af K V7 "_law_draw"=true) (k26:AK K (.ref QL)=true)
  (a27:AQ K AU "_law_after"=some (some (.ref QM))) (l27:K.lookup QM=some ⟨abY,abV,.func (Aa "_law_after" "_law_after" (aE hV) (aC hV) (ah hV) .none abZ ab_ ab0 abW V8 ab1),abX⟩) (c27:Af K V8 "_law_after"=true) (k27:AK K (.ref QM)=true)
  (a28:AQ K AU "_law_names"=some (some (.ref QN))) (l28:K.lookup QN=some ⟨ab5,ab2,.func (Aa "_law_names" "_law_names" (aE fg) (aC fg) (ah fg) .none ab6 ab7 ab8 ab3 V9 ab9),ab4⟩) (c28:Af K V9 "_law_names"=true) (k28:AK K (.ref QN)=true)
  (a29:AQ K AU "_law_rings"=some (some (.ref QO))) (l29:K.lookup QO=some ⟨acd,ab',.func (Aa "_law_rings" "_law_rings" (aE h_) (aC h_) (ah h_) .none ace acf acg aca V' ach),acb⟩) (c29:Af K V' "_law_rings"=true) (k29:AK K (.ref QO)=true)
  (a30:AQ K AU "_law_row"=some (some (.ref QP))) (l30:K.lookup QP=some ⟨acm,aci,.func (Aa "_law_row" "_law_row" (aE gg) (aC gg) (ah gg) .none acn aco acp acj Wa acq),ack⟩) (c30:Af K Wa "_law_row"=true) (k30:AK K (.ref QP)=true)
  (a31:AQ K AU "_law_world"=some (some (.ref QQ))) (l31:K.lookup QQ=some ⟨acv,acr,.func (Aa "_law_world" "_law_world" (aE fh) (aC fh) (ah fh) .none acw acx acy acs Wb acz),acu⟩) (c31:Af K Wb "_law_world"=true) (k31:AK K (.ref QQ)=true)
  (a32:AQ K AU "_law_term"=some (some (.ref f32))) (l32:K.lookup f32=some ⟨acD,acA,.func (Aa "_law_term" "_law_term" (aE g5) (aC g5) (ah g5) .none acE acF acG acB Wc acH),acC⟩) (c32:Af K Wc "_law_term"=true) (k32:AK K (.ref f32)=true)
  (a33:AQ K AU "_law_letters"=some (some (.ref QR))) (l33:K.lookup QR=some ⟨acL,acI,.func (Aa "_law_letters" "_law_letters" (aE eE) (aC eE) (ah eE) .none acM acN acO acJ Wd acP),acK⟩) (c33:Af K Wd "_law_letters"=true) (k33:AK K (.ref QR)=true)
  (a34:AQ K AU "_law_grown"=some (some (.ref QS))) (l34:K.lookup QS=some ⟨acT,acQ,.func (Aa "_law_grown" "_law_grown" (aE ia) (aC ia) (ah ia) .none acU acV acW acR Wf acX),acS⟩) (c34:Af K Wf "_law_grown"=true) (k34:AK K (.ref QS)=true)
  (a35:AQ K AU "_law_alike"=some (some (.ref QT))) (l35:K.lookup QT=some ⟨ac0,acY,.func (Aa "_law_alike" "_law_alike" (aE fS) (aC fS) (ah fS) .none ac1 ac2 ac3 acZ Wg ac4),ac_⟩) (c35:Af K Wg "_law_alike"=true) (k35:AK K (.ref QT)=true)
  (a36:AQ K AU "_law_onto"=some (some (.ref QU))) (l36:K.lookup QU=some ⟨ac8,ac5,.func (Aa "_law_onto" "_law_onto" (aE iT) (aC iT) (ah iT) .none ac9 ac' ada ac6 Wh adb),ac7⟩) (c36:Af K Wh "_law_onto"=true) (k36:AK K (.ref QU)=true)
  (a37:AQ K AU "_law_due"=some (some (.ref QV))) (l37:K.lookup QV=some ⟨adg,ade,.func (Aa "_law_due" "_law_due" (aE dv) (aC dv) (ah dv) .none Wj Wk Wl Wi (.ref uL) Wm),adf⟩) (c37:Af K (.ref uL) "_law_due"=true) (k37:AK K (.ref QV)=true)
  (lc37:K.lookup uL=some ⟨.type "code",Xx,.fields nX,Xy⟩) (lv37:nX[11]? =some (.ref kG))
  (le37:((match (nX[11]? :Option Value) with | some (.ref P')=>P' == kG | _=>false)&&(match nX.getD 18 .none with | .str _ _=>true | _=>false)&&(match nX.getD 7 .none with | .int _ _=>true | _=>false)&&(match nX.getD 9 .none with | .bool _=>true | _=>false)&&(match nX.getD 10 .none with | .int _ _=>true | _=>false)&&uL != kG)=true)
  (ln37:K.lookup kG=none) (lt37:h.get? kG=some (Ba #[]))
  (a38:AQ K AU "_law_wide"=some (some (.ref QW))) (l38:K.lookup QW=some ⟨adk,adh,.func (Aa "_law_wide" "_law_wide" (aE fu) (aC fu) (ah fu) .none adl adn ado adi Wn adp),adj⟩) (c38:Af K Wn "_law_wide"=true) (k38:AK K (.ref QW)=true)
  (a39:AQ K AU "law"=some (some (.ref Wo))) (l39:K.lookup Wo=some ⟨adt,adq,.func (Aa "law" "law" (aE jL) (aC jL) (ah jL) .none Wr Ws Wu Wq Pd Wv),ads⟩) (c39:Af K Pd "law"=true) (k39:AK K (.ref Wo)=true)
  (z0:AQ K AU "range"=some none)
  (z1:AQ K AU "tuple"=some none)
  (z2:AQ K AU "len"=some none)
  (z3:AQ K AU "list"=some none)
  (z4:AQ K AU "dict"=some none)
  (z5:AQ K AU "sum"=some none)
  (z6:AQ K AU "enumerate"=some none)
  (z7:AQ K AU "reversed"=some none)
  (z8:AQ K AU "sorted"=some none)
  (z9:AQ K AU "abs"=some none)
  (z10:AQ K AU "isinstance"=some none)
  (z11:AQ K AU "bool"=some none)
  (z12:AQ K AU "set"=some none)
  (z13:AQ K AU "zip"=some none)
  (z14:AQ K AU "min"=some none)
  (z15:AQ K AU "all"=some none)
  (z16:AQ K AU "int"=some none)
  (tne01:ky≠kz)
  (tne02:ky≠kD)
  (tne03:ky≠kE)
  (tne04:ky≠kG)
  (tne12:kz≠kD)
  (tne13:kz≠kE)
  (tne14:kz≠kG)
  (tne23:kD≠kE)
  (tne24:kD≠kG)
  (tne34:kE≠kG)
  {pd:Addr} {Ww:Array DictEntry} {pn:Nat}
  {Kt:Addr} {Xz:Nat} {Wx:_}
  {Ku:Addr} {XA:Nat} {Wy:_} {Wz:_}
  {Kv:Addr} {XB:Nat} {WA:_} {WB:_}
  {Kw:Addr} {XC:Nat} {WC:_}
  {Kx:Addr} {XD:Nat} {WD:_}
  (p_a:AQ K AU "PART_SPOTS"=some (some (.ref pd))) (p_l:K.lookup pd=some ⟨.type "dict",none,.dict Ww pn, #[]⟩) (p_k:GG w.params Ww.toList) (p_s:(pd == Bq)=false)
  (pq_no:AQ K pd "not"=some (some (.ref Kt))) (pr_no:K.lookup Kt=some ⟨.type "tuple",none,.seq #[.int 1 Wx] Xz, #[]⟩)
  (pq_an:AQ K pd "and"=some (some (.ref Ku))) (pr_an:K.lookup Ku=some ⟨.type "tuple",none,.seq #[.int 1 Wy,.int 2 Wz] XA, #[]⟩)
  (pq_or:AQ K pd "or"=some (some (.ref Kv))) (pr_or:K.lookup Kv=some ⟨.type "tuple",none,.seq #[.int 1 WA,.int 2 WB] XB, #[]⟩)
  (pq_so:AQ K pd "some"=some (some (.ref Kw))) (pr_so:K.lookup Kw=some ⟨.type "tuple",none,.seq #[.int 2 WC] XC, #[]⟩)
  (pq_ea:AQ K pd "each"=some (some (.ref Kx))) (pr_ea:K.lookup Kx=some ⟨.type "tuple",none,.seq #[.int 2 WD] XD, #[]⟩)
  (pq_same:AQ K pd "same"=some none)
  (pq_less:AQ K pd "less"=some none)
  (pq_sign:AQ K pd "sign"=some none)
  (pq_alike:AQ K pd "alike"=some none)
  {sd:Addr} {WE:Array DictEntry} {sn:Nat}
  {Ky:Addr} {XE:Nat} {WG:_} {WH:_}
  {Kz:Addr} {XF:Nat} {WI:_} {WJ:_}
  {KA:Addr} {XG:Nat} {WK:_}
  {KC:Addr} {XH:Nat} {WL:_} {WM:_}
  (s_a:AQ K AU "TERM_SPOTS"=some (some (.ref sd))) (s_l:K.lookup sd=some ⟨.type "dict",none,.dict WE sn, #[]⟩) (s_k:GG w.params WE.toList) (s_s:(sd == Bq)=false)
  (sq_sa:AQ K sd "same"=some (some (.ref Ky))) (sr_sa:K.lookup Ky=some ⟨.type "tuple",none,.seq #[.int 1 WG,.int 2 WH] XE, #[]⟩)
  (sq_le:AQ K sd "less"=some (some (.ref Kz))) (sr_le:K.lookup Kz=some ⟨.type "tuple",none,.seq #[.int 1 WI,.int 2 WJ] XF, #[]⟩)
  (sq_si:AQ K sd "sign"=some (some (.ref KA))) (sr_si:K.lookup KA=some ⟨.type "tuple",none,.seq #[.int 2 WK] XG, #[]⟩)
  (sq_al:AQ K sd "alike"=some (some (.ref KC))) (sr_al:K.lookup KC=some ⟨.type "tuple",none,.seq #[.int 2 WL,.int 4 WM] XH, #[]⟩)
  (sq_not:AQ K sd "not"=some none)
  (sq_and:AQ K sd "and"=some none)
  (sq_or:AQ K sd "or"=some none)
  (sq_some:AQ K sd "some"=some none)
  (sq_each:AQ K sd "each"=some none)
  :∃(fd:Aw) (ts:List Addr),(∀T∈ts,(∃c,DV h c T)/\h.get? T=some (Ba #[])/\K.lookup T=none)/\(∀(s:AI) (v:Value),HM s fd ⟨[v],[]⟩ [("_law_script",v)])/\∀base:Heap,K.In base->base.Ns AU mg->fq mg base->aR l.prog w K mg base bj 7 fa fd ["_law_script"] (xp K ts):=by
 have e:=hfa.symm.trans (Al X G a39)
 cases e
 have F0:=bw (st:=eP) l0 c0 k0
 have b0:=F0.binds (ps:=["base","number"]) λ_ _ _ _ _ _ us hl=>ln2 us hl λ_ _=>rfl
 have F1:=bw (st:=c_) l1 c1 k1
 have b1:=F1.binds (ps:=["base","many"]) λ_ _ _ _ _ _ us hl=>ln2 us hl λ_ _=>rfl
 have F2:=bw (st:=eQ) l2 c2 k2
 have b2:=F2.binds (ps:=["moves","room","figures"]) λ_ _ _ _ _ _ us hl=>pQ us hl λ_ _ _=>rfl
 have F3:=iQ (st:=bQ) l3 c3 k3
 have b3:Binds K (Aa "grown_from" "grown_from" (aE bQ) (aC bQ) (ah bQ) (.ref Ju) Vw Vx Vy Vv (.ref Nm) Vz) ["first","many","onward","is_yes","most"] []:=λs us hK hl=>Vu us (by rw[BS] at hl;exact hl) λ_ _ _ _ _=>Dq (T:=Ju) rfl (hK _ _ ld3) rfl rfl rfl
 have d3:∃t,Binds K (Aa "grown_from" "grown_from" (aE bQ) (aC bQ) (ah bQ) (.ref Ju) Vw Vx Vy Vv (.ref Nm) Vz) ["first","many","onward","is_yes","most"] [.int 2000 t]:=⟨VA,λs us hK hl=>have h3:us.length=4:=(by simpa using hl);Jt us h3 λ_ _ _ _=>Dq (T:=Ju) rfl (hK _ _ ld3) rfl rfl rfl⟩
 have F4:=bw (st:=eS) l4 c4 k4
 have b4:=F4.binds (ps:=["base","names","growth","most"]) λ_ _ _ _ _ _ us hl=>Jt us hl λ_ _ _ _=>rfl
 have F5:=bw (st:=da) l5 c5 k5
 have b5:=F5.binds (ps:=["saying"]) λ_ _ _ _ _ _ us hl=>mh us hl λ_=>rfl
 have F6:=bw (st:=dF) l6 c6 k6
 have b6:=F6.binds (ps:=["saying"]) λ_ _ _ _ _ _ us hl=>mh us hl λ_=>rfl
 have F7:=bw (st:=cQ) l7 c7 k7
 have b7:=F7.binds (ps:=["saying"]) λ_ _ _ _ _ _ us hl=>mh us hl λ_=>rfl
 have F8:=bw (st:=cE) l8 c8 k8
 have b8:=F8.binds (ps:=["told","place","saying"]) λ_ _ _ _ _ _ us hl=>pQ us hl λ_ _ _=>rfl
 have F9:=bw (st:=dG) l9 c9 k9
 have b9:=F9.binds (ps:=["saying","inner"]) λ_ _ _ _ _ _ us hl=>ln2 us hl λ_ _=>rfl
 have F10:=bw (st:=cR) l10 c10 k10
 have b10:=F10.binds (ps:=["saying"]) λ_ _ _ _ _ _ us hl=>mh us hl λ_=>rfl
 have F11:=bw (st:=eU) l11 c11 k11
 have b11:=F11.binds (ps:=["saying"]) λ_ _ _ _ _ _ us hl=>mh us hl λ_=>rfl
 have F12:=bw (st:=ft) l12 c12 k12
 have b12:=F12.binds (ps:=["term","names"]) λ_ _ _ _ _ _ us hl=>ln2 us hl λ_ _=>rfl
 have F13:=bw (st:=g_) l13 c13 k13
 have b13:=F13.binds (ps:=["letter","times"]) λ_ _ _ _ _ _ us hl=>ln2 us hl λ_ _=>rfl
 have F14:=bw (st:=dc) l14 c14 k14
 have b14:=F14.binds (ps:=["base","times"]) λ_ _ _ _ _ _ us hl=>ln2 us hl λ_ _=>rfl
 have F15:=bw (st:=fE) l15 c15 k15
 have b15:=F15.binds (ps:=["saying","names"]) λ_ _ _ _ _ _ us hl=>ln2 us hl λ_ _=>rfl
 have F16:=bw (st:=fF) l16 c16 k16
 have b16:=F16.binds (ps:=["base","room","total"]) λ_ _ _ _ _ _ us hl=>pQ us hl λ_ _ _=>rfl
 have F17:=iQ (st:=cu) l17 c17 k17
 have Za:=jh lc17 le17
 have b17:Binds K (Aa "same_growth" "same_growth" (aE cu) (aC cu) (ah cu) .none VJ VL VM VI (.ref uG) VN) ["base","names","saying"] []:=.all λus hl=>pQ us hl λ_ _ _=>rfl
 have F18:=iQ (st:=cv) l18 c18 k18
 have Zb:=jh lc18 le18
 have b18:Binds K (Aa "less_growth" "less_growth" (aE cv) (aC cv) (ah cv) .none VP VQ VR VO (.ref uH) VS) ["base","names","saying"] []:=.all λus hl=>pQ us hl λ_ _ _=>rfl
 have F19:=bw (st:=eV) l19 c19 k19
 have b19:=F19.binds (ps:=["base","row","pair","total"]) λ_ _ _ _ _ _ us hl=>Jt us hl λ_ _ _ _=>rfl
 have F20:=bw (st:=fI) l20 c20 k20
 have b20:=F20.binds (ps:=["base","row","pair"]) λ_ _ _ _ _ _ us hl=>pQ us hl λ_ _ _=>rfl
 have F21:=iQ (st:=bB) l21 c21 k21
 have Zc:=jh lc21 le21
 have b21:Binds K (Aa "sign_growth" "sign_growth" (aE bB) (aC bB) (ah bB) .none VX VY VZ VW (.ref uI) V_) ["world","names","saying"] []:=.all λus hl=>pQ us hl λ_ _ _=>rfl
 have F22:=iQ (st:=bZ) l22 c22 k22
 have Zd:=jh lc22 le22
 have b22:Binds K (Aa "alike_growth" "alike_growth" (aE bZ) (aC bZ) (ah bZ) .none V1 V2 V3 V0 (.ref uJ) V4) ["world","names","saying"] []:=.all λus hl=>pQ us hl λ_ _ _=>rfl
 have F23:=bw (st:=dR) l23 c23 k23
 have b23:=F23.binds (ps:=["world","names","saying"]) λ_ _ _ _ _ _ us hl=>pQ us hl λ_ _ _=>rfl
 have F24:=iQ (st:=cK) l24 c24 k24
 have b24:Binds K (Aa "atom_of" "atom_of" (aE cK) (aC cK) (ah cK) (.ref uK) O' Pa Pb O9 (.ref zT) Pc) ["world","saying","most"] []:=λs us hK hl=>pQ us (by rw[BS] at hl;exact hl) λ_ _ _=>Dq (T:=uK) rfl (hK _ _ ld24) rfl rfl rfl
 have d24:∃t,Binds K (Aa "atom_of" "atom_of" (aE cK) (aC cK) (ah cK) (.ref uK) O' Pa Pb O9 (.ref zT) Pc) ["world","saying","most"] [.int 2000 t]:=⟨QJ,λs us hK hl=>have h3:us.length=2:=(by simpa using hl);ln2 us h3 λ_ _=>Dq (T:=uK) rfl (hK _ _ ld24) rfl rfl rfl⟩
 have F25:=bw (st:=g0) l25 c25 k25
 have b25:=F25.binds (ps:=["_law_script"]) λ_ _ _ _ _ _ us hl=>mh us hl λ_=>rfl
 have F26:=bw (st:=iS) l26 c26 k26
 have b26:=F26.binds (ps:=["_law_feed_here","_law_many"]) λ_ _ _ _ _ _ us hl=>ln2 us hl λ_ _=>rfl
 have F27:=bw (st:=hV) l27 c27 k27
 have b27:=F27.binds (ps:=["_law_word"]) λ_ _ _ _ _ _ us hl=>mh us hl λ_=>rfl
 have F28:=bw (st:=fg) l28 c28 k28
 have b28:=F28.binds (ps:=["_law_feed_here","_law_many"]) λ_ _ _ _ _ _ us hl=>ln2 us hl λ_ _=>rfl
 have F29:=bw (st:=h_) l29 c29 k29
 have b29:=F29.binds (ps:=["_law_moves"]) λ_ _ _ _ _ _ us hl=>mh us hl λ_=>rfl
 have F30:=bw (st:=gg) l30 c30 k30
 have b30:=F30.binds (ps:=["_law_feed_here","_law_base"]) λ_ _ _ _ _ _ us hl=>ln2 us hl λ_ _=>rfl
 have F31:=bw (st:=fh) l31 c31 k31
 have b31:=F31.binds (ps:=["_law_feed_here"]) λ_ _ _ _ _ _ us hl=>mh us hl λ_=>rfl
 have F32:=bw (st:=g5) l32 c32 k32
 have b32:=F32.binds (ps:=["_law_feed_here","_law_names_here"]) λ_ _ _ _ _ _ us hl=>ln2 us hl λ_ _=>rfl
 have F33:=bw (st:=eE) l33 c33 k33
 have b33:=F33.binds (ps:=["_law_base","_law_many"]) λ_ _ _ _ _ _ us hl=>ln2 us hl λ_ _=>rfl
 have F34:=bw (st:=ia) l34 c34 k34
 have b34:=F34.binds (ps:=["_law_first","_law_many","_law_onward","_law_most"]) λ_ _ _ _ _ _ us hl=>Jt us hl λ_ _ _ _=>rfl
 have F35:=bw (st:=fS) l35 c35 k35
 have b35:=F35.binds (ps:=["_law_found","_law_due_here"]) λ_ _ _ _ _ _ us hl=>ln2 us hl λ_ _=>rfl
 have F36:=bw (st:=iT) l36 c36 k36
 have b36:=F36.binds (ps:=["_law_base","_law_row_here","_law_room","_law_number"]) λ_ _ _ _ _ _ us hl=>Jt us hl λ_ _ _ _=>rfl
 have F37:=iQ (st:=dv) l37 c37 k37
 have Ze:=jh lc37 le37
 have b37:Binds K (Aa "_law_due" "_law_due" (aE dv) (aC dv) (ah dv) .none Wj Wk Wl Wi (.ref uL) Wm) ["_law_base","_law_row_here","_law_term_here","_law_sign","_law_most"] []:=.all λus hl=>Vu us hl λ_ _ _ _ _=>rfl
 have F38:=bw (st:=fu) l38 c38 k38
 have b38:=F38.binds (ps:=["_law_feed_here","_law_base"]) λ_ _ _ _ _ _ us hl=>ln2 us hl λ_ _=>rfl
 have F39:=bw (st:=jL) l39 c39 k39
 have T:Txt K mg ⟨f0,_,f1,_,f2,_,f3,_,Nm,f4,_,f5,_,f6,_,f7,_,f8,_,f9,_,Qv,_,f11,_,Qw,_,Qx,_,Qy,_,Qz,_,QA,_,QB,_,uG,ky,QC,_,uH,kz,QD,_,QE,_,QF,_,uI,kD,QG,_,uJ,kE,QH,_,QI,_,zT,QK,_,QL,_,QM,_,QN,_,QO,_,QP,_,QQ,_,f32,_,QR,_,QS,_,QT,_,QU,_,QV,_,uL,kG,QW,_,fa,_⟩:=⟨F0,Al X G a0,k0,b0,F1,Al X G a1,k1,b1,F2,Al X G a2,k2,b2,F3,Al X G a3,k3,b3,d3,F4,Al X G a4,k4,b4,F5,Al X G a5,k5,b5,F6,Al X G a6,k6,b6,F7,Al X G a7,k7,b7,F8,Al X G a8,k8,b8,F9,Al X G a9,k9,b9,F10,Al X G a10,k10,b10,F11,Al X G a11,k11,b11,F12,Al X G a12,k12,b12,F13,Al X G a13,k13,b13,F14,Al X G a14,k14,b14,F15,Al X G a15,k15,b15,F16,Al X G a16,k16,b16,F17,Za,Al X G a17,k17,b17,F18,Zb,Al X G a18,k18,b18,F19,Al X G a19,k19,b19,F20,Al X G a20,k20,b20,F21,Zc,Al X G a21,k21,b21,F22,Zd,Al X G a22,k22,b22,F23,Al X G a23,k23,b23,F24,Al X G a24,k24,b24,d24,F25,Al X G a25,k25,b25,F26,Al X G a26,k26,b26,F27,Al X G a27,k27,b27,F28,Al X G a28,k28,b28,F29,Al X G a29,k29,b29,F30,Al X G a30,k30,b30,F31,Al X G a31,k31,b31,F32,Al X G a32,k32,b32,F33,Al X G a33,k33,b33,F34,Al X G a34,k34,b34,F35,Al X G a35,k35,b35,F36,Al X G a36,k36,b36,F37,Ze,Al X G a37,k37,b37,F38,Al X G a38,k38,b38,F39,Al X G a39,A8 X G z0,A8 X G z1,A8 X G z2,A8 X G z3,A8 X G z4,A8 X G z5,A8 X G z6,A8 X G z7,A8 X G z8,A8 X G z9,A8 X G z10,A8 X G z11,A8 X G z12,A8 X G z13,A8 X G z14,A8 X G z15,A8 X G z16,tne01,tne02,tne03,tne04,tne12,tne13,tne14,tne23,tne24,tne34⟩
 have Dp:lZ K w.params pd (dC ⟨pd,Kt,Ku,Kv,Kw,Kx⟩):=⟨⟨Ww,pn,p_l,p_k,by
  intro x r hm
  simp only[dC,Ac,List.mem_nil_iff,or_false,FY] at hm
  rcases hm with⟨rfl,rfl⟩ | ⟨rfl,rfl⟩ | ⟨rfl,rfl⟩ | ⟨rfl,rfl⟩ | ⟨rfl,rfl⟩ | ⟨rfl,rfl⟩ | ⟨rfl,rfl⟩ | ⟨rfl,rfl⟩ | ⟨rfl,rfl⟩
  ·rw[BL p_l pq_no];exact rfl
  ·rw[BL p_l pq_an];exact rfl
  ·rw[BL p_l pq_or];exact rfl
  ·rw[BL p_l pq_so];exact rfl
  ·rw[BL p_l pq_ea];exact rfl
  ·rw[BL p_l pq_same];exact Bf
  ·rw[BL p_l pq_less];exact Bf
  ·rw[BL p_l pq_sign];exact Bf
  ·rw[BL p_l pq_alike];exact Bf⟩,p_s⟩
 have U:ja K w.params mg ⟨pd,Kt,Ku,Kv,Kw,Kx⟩:=⟨Al X G p_a,Dp,λH=>gf (us:=[.int 1 _]) pr_no (.cons ⟨_,rfl⟩ (.nil)) (by decide),λH=>gf (us:=[.int 1 _,.int 2 _]) pr_an (.cons ⟨_,rfl⟩ (.cons ⟨_,rfl⟩ (.nil))) (by decide),λH=>gf (us:=[.int 1 _,.int 2 _]) pr_or (.cons ⟨_,rfl⟩ (.cons ⟨_,rfl⟩ (.nil))) (by decide),λH=>gf (us:=[.int 2 _]) pr_so (.cons ⟨_,rfl⟩ (.nil)) (by decide),λH=>gf (us:=[.int 2 _]) pr_ea (.cons ⟨_,rfl⟩ (.nil)) (by decide)⟩
 have Ds:lZ K w.params sd (dD ⟨sd,Ky,Kz,KA,KC⟩):=⟨⟨WE,sn,s_l,s_k,by
  intro x r hm
  simp only[dD,Ac,List.mem_nil_iff,or_false,FY] at hm
  rcases hm with⟨rfl,rfl⟩ | ⟨rfl,rfl⟩ | ⟨rfl,rfl⟩ | ⟨rfl,rfl⟩ | ⟨rfl,rfl⟩ | ⟨rfl,rfl⟩ | ⟨rfl,rfl⟩ | ⟨rfl,rfl⟩ | ⟨rfl,rfl⟩
  ·rw[BL s_l sq_sa];exact rfl
  ·rw[BL s_l sq_le];exact rfl
  ·rw[BL s_l sq_si];exact rfl
  ·rw[BL s_l sq_al];exact rfl
  ·rw[BL s_l sq_not];exact Bf
  ·rw[BL s_l sq_and];exact Bf
  ·rw[BL s_l sq_or];exact Bf
  ·rw[BL s_l sq_some];exact Bf
  ·rw[BL s_l sq_each];exact Bf⟩,s_s⟩
 have Y:jO K w.params mg ⟨sd,Ky,Kz,KA,KC⟩:=⟨Al X G s_a,Ds,λH=>gf (us:=[.int 1 _,.int 2 _]) sr_sa (.cons ⟨_,rfl⟩ (.cons ⟨_,rfl⟩ (.nil))) (by decide),λH=>gf (us:=[.int 1 _,.int 2 _]) sr_le (.cons ⟨_,rfl⟩ (.cons ⟨_,rfl⟩ (.nil))) (by decide),λH=>gf (us:=[.int 2 _]) sr_si (.cons ⟨_,rfl⟩ (.nil)) (by decide),λH=>gf (us:=[.int 2 _,.int 4 _]) sr_al (.cons ⟨_,rfl⟩ (.cons ⟨_,rfl⟩ (.nil))) (by decide)⟩
 exact⟨Aa "law" "law" (aE jL) (aC jL) (ah jL) .none Wr Ws Wu Wq Pd Wv,[ky,kz,kD,kE,kG],(Az.mpr ⟨⟨⟨_,B9 X Za⟩,lt17,ln17⟩,(Az.mpr ⟨⟨⟨_,B9 X Zb⟩,lt18,ln18⟩,(Az.mpr ⟨⟨⟨_,B9 X Zc⟩,lt21,ln21⟩,(Az.mpr ⟨⟨⟨_,B9 X Zd⟩,lt22,ln22⟩,(Az.mpr ⟨⟨⟨_,B9 X Ze⟩,lt37,ln37⟩,(λ_ h=>nomatch h)⟩)⟩)⟩)⟩)⟩),λs v=>.of_eq rfl,λbase _ _ hB=>Vq T hB U Y⟩
theorem walk{l:GH}{q:Ak}{loose:List Str}{XP:(Str->Option Value)->Heap->Prop}{YP:World->Heap->Prop}{d:DefRec}{K:Gj->AD}(hn:l.most=some 63)(hdf:d.params.defaults=[])
  (hY:∀(w:World) (h:Heap),YP w h->(K w.params).In h)
  (F:∀(w:World) (mg:Str->Option Value) (fa:Addr) (h:Heap),(K w.params).In h->h.Ns AU mg->mg d.name=some (.ref fa)->YP w h->
   ∃(fd:Aw) (ts:List Addr),(∀T∈ts,(∃c,DV h c T)/\h.get? T=some (Ba #[])/\(K w.params).lookup T=none)/\(∀(s:AI) (u:Value),HM s fd ⟨[u],[]⟩ [("_law_script",u)])/\
    ∀base:Heap,(K w.params).In base->base.Ns AU mg->fq mg base->aR l.prog w (K w.params) mg base bj 7 fa fd ["_law_script"] (xp (K w.params) ts)):
  PySem.W.WalkO q loose XP YP l.row.toRowW d [] (λf vs=>Hg f vs):=
 L2.N_ (n:=63) (k:=7) (x:="_law_script") (sp:=λw ts=>xp (K w.params) ts) hn (by decide) hdf ⟨rfl,by decide,by decide,rfl⟩ hY F (λ_ _ a ns _ hl hO hS=>⟨a,ns,rfl,hS,hl,hO,λ_=>rfl⟩)
end My
namespace PySem.W.Fast
theorem tw6657722757366859162 : True := trivial
theorem tw1519802794235194889 : True := trivial
theorem tw8933060480511464076 : True := trivial
theorem tw3712066342689968224 : True := trivial
theorem tw2015640187305053955 : True := trivial
theorem tw1083162202345535882 : True := trivial
theorem tw8492844092201968079 : True := trivial
theorem tw1624351765162968337 : True := trivial
theorem tw11869460236020452656 : True := trivial
theorem tw346945185507735853 : True := trivial
theorem tw3158211909555149270 : True := trivial
theorem tw12751575881868560423 : True := trivial
theorem tw10684574420172929316 : True := trivial
theorem tw5527466280510578985 : True := trivial
theorem tw6998964694103024201 : True := trivial
theorem tw6439931862474865210 : True := trivial
theorem tw15385126301543592443 : True := trivial
theorem tw8317920642971475564 : True := trivial
theorem tw17729897954441167625 : True := trivial
theorem tw18270367695501789277 : True := trivial
theorem tw14551550408092010992 : True := trivial
theorem tw2643469587239714578 : True := trivial
theorem tw13589426786199595524 : True := trivial
theorem tw6039486400891615001 : True := trivial
theorem tw1203396983705351785 : True := trivial
theorem tw390525629854389633 : True := trivial
theorem tw16983743108604868621 : True := trivial
theorem tw3027816124518616832 : True := trivial
theorem tw16635632503128121973 : True := trivial
theorem tw3377208837691075439 : True := trivial
theorem tw7313886953882630879 : True := trivial
theorem tw16560744137260683387 : True := trivial
theorem tw2243001351981719297 : True := trivial
theorem tw15614279790880929143 : True := trivial
theorem tw14351987769457497506 : True := trivial
theorem tw12582287844842909953 : True := trivial
theorem tw7289104580431914629 : True := trivial
theorem tw7409640587429000211 : True := trivial
theorem tw12252847693131432504 : True := trivial
theorem tw1997824519159464121 : True := trivial
theorem tw3329828758788001133 : True := trivial
theorem tw5303418099037097452 : True := trivial
theorem tw11511129339878639571 : True := trivial
theorem tw2680565953486004826 : True := trivial
theorem tw17400748192054839469 : True := trivial
theorem tw12151510333429010363 : True := trivial
theorem tw14812487248519458908 : True := trivial
theorem tw17373107589983853824 : True := trivial
theorem tw9441498285728918776 : True := trivial
theorem tw17483411914398692708 : True := trivial
theorem tw11239975951575276782 : True := trivial
theorem tw10495927337666494737 : True := trivial
theorem tw13894585256766872994 : True := trivial
theorem tw12376870427388547015 : True := trivial
theorem tw12673769734567610273 : True := trivial
theorem tw14926480294542714805 : True := trivial
theorem tw5637263139256700857 : True := trivial
theorem tw5645689514229732354 : True := trivial
theorem tw5795007083692450344 : True := trivial
theorem tw13832065822427306918 : True := trivial
theorem tw16736064986341179565 : True := trivial
theorem tw2227808656949430928 : True := trivial
theorem tw816910438282231086 : True := trivial
theorem tw7218627974405799026 : True := trivial
theorem tw293202604039752322 : True := trivial
theorem tw8782234077110388237 : True := trivial
theorem tw11938679937437748560 : True := trivial
theorem tw17926730721530518017 : True := trivial
theorem tw2928029267614072130 : True := trivial
theorem tw1823638647248675072 : True := trivial
theorem tw13220537654002825658 : True := trivial
theorem tw1810920994897724340 : True := trivial
theorem tw10818479976330640164 : True := trivial
theorem tw11730683156702371316 : True := trivial
theorem tw366403194222385038 : True := trivial
theorem tw11467867377848020791 : True := trivial
theorem tw12092997041256670654 : True := trivial
theorem tw189860156350726815 : True := trivial
theorem tw3960386642768499425 : True := trivial
theorem tw41078536675310462 : True := trivial
theorem tw8202437090319113690 : True := trivial
theorem tw1847122410096323496 : True := trivial
theorem tw6047203938350888137 : True := trivial
theorem tw18140372834533576732 : True := trivial
theorem tw3368381098470047440 : True := trivial
theorem tw17567360009814123448 : True := trivial
theorem tw11188307837971582157 : True := trivial
theorem tw15866365519844274774 : True := trivial
theorem tw5624222562273828705 : True := trivial
theorem tw1786566796515530466 : True := trivial
theorem tw13860856188524239904 : True := trivial
theorem tw8926062429275090467 : True := trivial
theorem tw6236798687298861005 : True := trivial
theorem tw5084812663165692350 : True := trivial
theorem tw7889094330236542718 : True := trivial
theorem tw10365496786112051490 : True := trivial
theorem tw9233221964816552545 : True := trivial
theorem tw5611841964266856609 : True := trivial
theorem tw12630587903542753177 : True := trivial
theorem tw16358001337156952047 : True := trivial
theorem tw15931968336761228872 : True := trivial
theorem tw16788603016613728929 : True := trivial
theorem tw10676654423826308610 : True := trivial
theorem tw17104818267693881715 : True := trivial
theorem tw8077912143598049788 : True := trivial
theorem tw802862618804652059 : True := trivial
theorem tw14486194461883987039 : True := trivial
theorem tw5250744651934111574 : True := trivial
theorem tw17790533388415605552 : True := trivial
theorem tw12379843901553374471 : True := trivial
theorem tw6431044619612746247 : True := trivial
theorem tw17873415252108960584 : True := trivial
theorem tw4816158471295065466 : True := trivial
theorem tw15819403831538825337 : True := trivial
theorem tw4895747779308159767 : True := trivial
theorem tw547599107966373025 : True := trivial
theorem tw6603985666055237960 : True := trivial
theorem tw6302919257475676984 : True := trivial
theorem tw14247645333011570855 : True := trivial
theorem tw5467695812619090651 : True := trivial
theorem tw3131059964556244841 : True := trivial
theorem tw6243700662880111026 : True := trivial
theorem tw4302057143312894363 : True := trivial
end PySem.W.Fast
open PySem PySem.W PyProof.Rows
set_option maxRecDepth 100000 in
set_option maxHeartbeats 0 in
theorem PySem.Challenge.cw_figurejudge_k35_signs_at_sums_holds : PySem.Challenge.rw_figurejudge_k35_signs_at_sums.Holds := by
 w_on;o_law;k_head;(case hw=>w_witness2)
 k_fill
 refine My.walk (l:=PySem.Challenge.rw_figurejudge_k35_signs_at_sums) rfl rfl (fun w h Y=>PySem.W.km_in_of Y) ?F
 case F=>
  intro w mg fa h KX G hmg Y
  refine' My.all_mk KX G hmg ?a0 ?l0 ?c0 ?k0 ?a1 ?l1 ?c1 ?k1 ?a2 ?l2 ?c2 ?k2 ?a3 ?l3 ?c3 ?k3 ?ld3 ?a4 ?l4 ?c4 ?k4 ?a5 ?l5 ?c5 ?k5 ?a6 ?l6 ?c6 ?k6 ?a7 ?l7 ?c7 ?k7 ?a8 ?l8 ?c8 ?k8 ?a9 ?l9 ?c9 ?k9 ?a10 ?l10 ?c10 ?k10 ?a11 ?l11 ?c11 ?k11 ?a12 ?l12 ?c12 ?k12 ?a13 ?l13 ?c13 ?k13 ?a14 ?l14 ?c14 ?k14 ?a15 ?l15 ?c15 ?k15 ?a16 ?l16 ?c16 ?k16 ?a17 ?l17 ?c17 ?k17 ?lc17 ?lv17 ?le17 ?ln17 ?lt17 ?a18 ?l18 ?c18 ?k18 ?lc18 ?lv18 ?le18 ?ln18 ?lt18 ?a19 ?l19 ?c19 ?k19 ?a20 ?l20 ?c20 ?k20 ?a21 ?l21 ?c21 ?k21 ?lc21 ?lv21 ?le21 ?ln21 ?lt21 ?a22 ?l22 ?c22 ?k22 ?lc22 ?lv22 ?le22 ?ln22 ?lt22 ?a23 ?l23 ?c23 ?k23 ?a24 ?l24 ?c24 ?k24 ?ld24 ?a25 ?l25 ?c25 ?k25 ?a26 ?l26 ?c26 ?k26 ?a27 ?l27 ?c27 ?k27 ?a28 ?l28 ?c28 ?k28 ?a29 ?l29 ?c29 ?k29 ?a30 ?l30 ?c30 ?k30 ?a31 ?l31 ?c31 ?k31 ?a32 ?l32 ?c32 ?k32 ?a33 ?l33 ?c33 ?k33 ?a34 ?l34 ?c34 ?k34 ?a35 ?l35 ?c35 ?k35 ?a36 ?l36 ?c36 ?k36 ?a37 ?l37 ?c37 ?k37 ?lc37 ?lv37 ?le37 ?ln37 ?lt37 ?a38 ?l38 ?c38 ?k38 ?a39 ?l39 ?c39 ?k39 ?z0 ?z1 ?z2 ?z3 ?z4 ?z5 ?z6 ?z7 ?z8 ?z9 ?z10 ?z11 ?z12 ?z13 ?z14 ?z15 ?z16 ?tne01 ?tne02 ?tne03 ?tne04 ?tne12 ?tne13 ?tne14 ?tne23 ?tne24 ?tne34 ?p_a ?p_l ?p_k ?p_s ?pq_no ?pr_no ?pq_an ?pr_an ?pq_or ?pr_or ?pq_so ?pr_so ?pq_ea ?pr_ea ?pq_same ?pq_less ?pq_sign ?pq_alike ?s_a ?s_l ?s_k ?s_s ?sq_sa ?sr_sa ?sq_le ?sr_le ?sq_si ?sr_si ?sq_al ?sr_al ?sq_not ?sq_and ?sq_or ?sq_some ?sq_each
  (case a0=>k_is)
  (case l0=>k_is)
  (case c0=>k_is)
  (case k0=>k_is)
  (case a1=>k_is)
  (case l1=>k_is)
  (case c1=>k_is)
  (case k1=>k_is)
  (case a2=>k_is)
  (case l2=>k_is)
  (case c2=>k_is)
  (case k2=>k_is)
  (case a3=>k_is)
  (case l3=>k_is)
  (case c3=>k_is)
  (case k3=>k_is)
  (case ld3=>k_is)
  (case a4=>k_is)
  (case l4=>k_is)
  (case c4=>k_is)
  (case k4=>k_is)
  (case a5=>k_is)
  (case l5=>k_is)
  (case c5=>k_is)
  (case k5=>k_is)
  (case a6=>k_is)
  (case l6=>k_is)
  (case c6=>k_is)
  (case k6=>k_is)
  (case a7=>k_is)
  (case l7=>k_is)
  (case c7=>k_is)
  (case k7=>k_is)
  (case a8=>k_is)
  (case l8=>k_is)
  (case c8=>k_is)
  (case k8=>k_is)
  (case a9=>k_is)
  (case l9=>k_is)
  (case c9=>k_is)
  (case k9=>k_is)
  (case a10=>k_is)
  (case l10=>k_is)
  (case c10=>k_is)
  (case k10=>k_is)
  (case a11=>k_is)
  (case l11=>k_is)
  (case c11=>k_is)
  (case k11=>k_is)
  (case a12=>k_is)
  (case l12=>k_is)
  (case c12=>k_is)
  (case k12=>k_is)
  (case a13=>k_is)
  (case l13=>k_is)
  (case c13=>k_is)
  (case k13=>k_is)
  (case a14=>k_is)
  (case l14=>k_is)
  (case c14=>k_is)
  (case k14=>k_is)
  (case a15=>k_is)
  (case l15=>k_is)
  (case c15=>k_is)
  (case k15=>k_is)
  (case a16=>k_is)
  (case l16=>k_is)
  (case c16=>k_is)
  (case k16=>k_is)
  (case a17=>k_is)
  (case l17=>k_is)
  (case c17=>k_is)
  (case k17=>k_is)
  (case lc17=>k_is)
  (case lv17=>rfl)
  (case le17=>rfl)
  (case ln17=>kernel_rfl)
  (case lt17=>exact PySem.W.km_tabs_of Y _ (by decide))
  (case a18=>k_is)
  (case l18=>k_is)
  (case c18=>k_is)
  (case k18=>k_is)
  (case lc18=>k_is)
  (case lv18=>rfl)
  (case le18=>rfl)
  (case ln18=>kernel_rfl)
  (case lt18=>exact PySem.W.km_tabs_of Y _ (by decide))
  (case a19=>k_is)
  (case l19=>k_is)
  (case c19=>k_is)
  (case k19=>k_is)
  (case a20=>k_is)
  (case l20=>k_is)
  (case c20=>k_is)
  (case k20=>k_is)
  (case a21=>k_is)
  (case l21=>k_is)
  (case c21=>k_is)
  (case k21=>k_is)
  (case lc21=>k_is)
  (case lv21=>rfl)
  (case le21=>rfl)
  (case ln21=>kernel_rfl)
  (case lt21=>exact PySem.W.km_tabs_of Y _ (by decide))
  (case a22=>k_is)
  (case l22=>k_is)
  (case c22=>k_is)
  (case k22=>k_is)
  (case lc22=>k_is)
  (case lv22=>rfl)
  (case le22=>rfl)
  (case ln22=>kernel_rfl)
  (case lt22=>exact PySem.W.km_tabs_of Y _ (by decide))
  (case a23=>k_is)
  (case l23=>k_is)
  (case c23=>k_is)
  (case k23=>k_is)
  (case a24=>k_is)
  (case l24=>k_is)
  (case c24=>k_is)
  (case k24=>k_is)
  (case ld24=>k_is)
  (case a25=>k_is)
  (case l25=>k_is)
  (case c25=>k_is)
  (case k25=>k_is)
  (case a26=>k_is)
  (case l26=>k_is)
  (case c26=>k_is)
  (case k26=>k_is)
  (case a27=>k_is)
  (case l27=>k_is)
  (case c27=>k_is)
  (case k27=>k_is)
  (case a28=>k_is)
  (case l28=>k_is)
  (case c28=>k_is)
  (case k28=>k_is)
  (case a29=>k_is)
  (case l29=>k_is)
  (case c29=>k_is)
  (case k29=>k_is)
  (case a30=>k_is)
  (case l30=>k_is)
  (case c30=>k_is)
  (case k30=>k_is)
  (case a31=>k_is)
  (case l31=>k_is)
  (case c31=>k_is)
  (case k31=>k_is)
  (case a32=>k_is)
  (case l32=>k_is)
  (case c32=>k_is)
  (case k32=>k_is)
  (case a33=>k_is)
  (case l33=>k_is)
  (case c33=>k_is)
  (case k33=>k_is)
  (case a34=>k_is)
  (case l34=>k_is)
  (case c34=>k_is)
  (case k34=>k_is)
  (case a35=>k_is)
  (case l35=>k_is)
  (case c35=>k_is)
  (case k35=>k_is)
  (case a36=>k_is)
  (case l36=>k_is)
  (case c36=>k_is)
  (case k36=>k_is)
  (case a37=>k_is)
  (case l37=>k_is)
  (case c37=>k_is)
  (case k37=>k_is)
  (case lc37=>k_is)
  (case lv37=>rfl)
  (case le37=>rfl)
  (case ln37=>kernel_rfl)
  (case lt37=>exact PySem.W.km_tabs_of Y _ (by decide))
  (case a38=>k_is)
  (case l38=>k_is)
  (case c38=>k_is)
  (case k38=>k_is)
  (case a39=>k_is)
  (case l39=>k_is)
  (case c39=>k_is)
  (case k39=>k_is)
  (case z0=>k_is)
  (case z1=>k_is)
  (case z2=>k_is)
  (case z3=>k_is)
  (case z4=>k_is)
  (case z5=>k_is)
  (case z6=>k_is)
  (case z7=>k_is)
  (case z8=>k_is)
  (case z9=>k_is)
  (case z10=>k_is)
  (case z11=>k_is)
  (case z12=>k_is)
  (case z13=>k_is)
  (case z14=>k_is)
  (case z15=>k_is)
  (case z16=>k_is)
  (case tne01=>decide)
  (case tne02=>decide)
  (case tne03=>decide)
  (case tne04=>decide)
  (case tne12=>decide)
  (case tne13=>decide)
  (case tne14=>decide)
  (case tne23=>decide)
  (case tne24=>decide)
  (case tne34=>decide)
  (case p_a=>k_is)
  (case p_l=>k_is)
  (case p_k=>repeat (first | exact⟨⟩ | refine⟨⟨_,_,rfl,rfl⟩,?_⟩))
  (case p_s=>rfl)
  (case pq_no=>k_is)
  (case pr_no=>k_is)
  (case pq_an=>k_is)
  (case pr_an=>k_is)
  (case pq_or=>k_is)
  (case pr_or=>k_is)
  (case pq_so=>k_is)
  (case pr_so=>k_is)
  (case pq_ea=>k_is)
  (case pr_ea=>k_is)
  (case pq_same=>k_is)
  (case pq_less=>k_is)
  (case pq_sign=>k_is)
  (case pq_alike=>k_is)
  (case s_a=>k_is)
  (case s_l=>k_is)
  (case s_k=>repeat (first | exact⟨⟩ | refine⟨⟨_,_,rfl,rfl⟩,?_⟩))
  (case s_s=>rfl)
  (case sq_sa=>k_is)
  (case sr_sa=>k_is)
  (case sq_le=>k_is)
  (case sr_le=>k_is)
  (case sq_si=>k_is)
  (case sr_si=>k_is)
  (case sq_al=>k_is)
  (case sr_al=>k_is)
  (case sq_not=>k_is)
  (case sq_and=>k_is)
  (case sq_or=>k_is)
  (case sq_some=>k_is)
  (case sq_each=>k_is)
#print axioms PySem.Challenge.cw_figurejudge_k35_signs_at_sums_holds
