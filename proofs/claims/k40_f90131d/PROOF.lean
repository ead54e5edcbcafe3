import PyProof.Rows.All
import Wide.All
import OpenK.AllK
import Wide.FinOn
import Lean
import PyProof.EqAt
import PyProof.EqKinds
import PyProof.TupleCall
import PyProof.IsRules
import PyProof.DictKeyH
import PyProof.DictFindH
import KE.KDictList
import PyProof.DictWalks
import PyProof.StrCalls2
import PyProof.StrCalls3
import PyProof.StrCalls
import PyProof.StrWalks
import PyProof.FString
import KE.KIntText
import PyProof.FitsReplace
import PyProof.StrLawsTight
import PyProof.StrLawsOcc
import PyProof.StrBlockI
import PyProof.SliceStr2
import PyProof.StrLawsChain
import PyProof.StrLaws
import PyProof.Rows.StrJoinMade
import PyProof.StrLawsIdx
import PyProof.StrLawsJoin
import PySem.Challenge.RW_signsmooth_k40_strict_ones
set_option genSizeOf false
set_option bootstrap.genMatcherCode false
set_option Elab.async false
set_option linter.all false
set_option maxRecDepth 100000
set_option exponentiation.threshold 4000
namespace Hx
open PySem PySem.Spec PyProof.Rows
theorem ic:entryFor table "proto.unchain" = some Builtin.«proto.unchain»:=entryFor_of_tree (by kernel_rfl)
section
variable {prog:Program} {w:World} {A:Around} {E:Value->Shared->Prop} {s:Shared}
theorem jW {α:Type} {a h:Addr} {oa oh:Obj} {us vs:Array Value} {Q:α->Shared->Prop} (hh:A.handled=some (.ref h)) (hne:h ≠ a) (ha:s.heap.get? a=some oa) (hda:oa.data=.fields us) (hsz:2 < us.size)
   (ho:s.heap.get? h=some oh) (hd:oh.data=.fields vs) (h2:vs[2]?=some .none)
   (q:E (.ref a) { s with heap:=s.heap.update a (Obj.mapFields (·.setIfInBounds 2 (.ref h))) }):wpAny (model prog w) A (raiseNew (.ref a):Sem α) Q E s:=by
 unfold raiseNew; refine wpAny_bind (wpAny_handled ?_); rw [hh]
 dsimp only
 rw [if_pos (show (Value.ref h != Value.ref a)=true by simp [hne])]
 refine wpAny_bind (wpAny_holding (wpAny_runValue (codeAny_builtin ic ?_)))
 unfold Builtin.«proto.unchain»
 dsimp only
 refine wpAny_bind (wpAny_field ho hd h2 ?_)
 rw [if_pos (show (Value.none == Value.none)=true by decide)]
 refine wpAny_pure ?_
 show wpAny _ A (do let _ <- updateField a 2 (.ref h); throw (Value.ref a)) _ _ _
 unfold updateField
 refine wpAny_bind (wpAny_bind (wpAny_load ha ?_))
 rw [hda]
 dsimp only
 rw [if_pos hsz]
 exact wpAny_update ha (wpAny_throw q)
theorem kN {r h:Addr} {v left step:Int} {oh:Obj} {vs:Array Value} {Q:Option Value->Shared->Prop} (hh:A.handled=some (.ref h)) (ho:s.heap.get? h=some oh) (hd:oh.data=.fields vs) (h2:vs[2]?=some .none)
   (hr:IsRangeIter s.heap r v left step) (hl:left<=0) (k:∀ h',Heap.ExtBut r s.heap h'->Q none { s with heap:=h' }):wpAny (model prog w) A (pyNext (.ref r)) Q E s:=by
 have ty:s.TypeIs (.ref r) "range_iterator":=⟨_,hr,rfl⟩
 have hlt:=Heap.lt_size ho
 have fl:∀ {α:Type} {B:Around} {F:Value->Shared->Prop} {R:α->Shared->Prop} (i:Nat) (y:Int) {f:Value->Sem α},(#[rawInt v,rawInt left,rawInt step]:Array Value)[i]?=some (rawInt y)->wpAny (model prog w) B (f (rawInt y)) R F s->wpAny (model prog w) B (field (.ref r) i >>= f) R F s:=by
   intro α B F R i y f e q
   exact wpAny_bind (wpAny_field hr rfl e q)
 unfold pyNext
 refine wpAny_bind (wpAny_attempt (wpAny_callSpecial?_slot (name:=Str.ofString "__next__") ty F.slot_range_iterator_next (wpAny_call_entry F.slot_range_iterator_next ty F.entry_range_iterator_next (fl 0 v rfl (fl 1 left rfl (fl 2 step rfl ?_))) (F.args_range_iterator_next_1 _))))
 show wpAny (model prog w) A.in1 (if left<=0 then _ else _) _ _ s
 rw [if_pos hl]
 refine wpAny_bind (wpAny_rule (wpAny_bind ?_))
 show wpAny _ _ (do let e <- newExc (.type "StopIteration") []; _) _ _ _
 refine wpAny_bind ?_
 simp only [newExc,newTuple]
 refine wpAny_bind (wpAny_newObj_type (wpAny_bind (m:=firstArgMember _ _) (wpAny_of_eq (a:=.none) (by first | rfl | (simp only [firstArgMember]; rfl)) (wpAny_newObj_type ?_ (by size_fits)))) (by size_fits))
 have hg:((s.heap.push { cls:=.type "tuple",data:=.seq ([]:List Value).toArray }).push { cls:=.type "StopIteration",data:=.fields (#[Value.ref s.heap.objs.size,.none,.none,.none,.bool false,.none]++ownMembersOf (.type "StopIteration") []) }).get? (s.heap.push { cls:=.type "tuple",data:=.seq ([]:List Value).toArray }).objs.size
     = some { cls:=.type "StopIteration",data:=.fields (#[Value.ref s.heap.objs.size,.none,.none,.none,.bool false,.none]++ownMembersOf (.type "StopIteration") []) }:=Heap.get?_push_size _ rfl
 refine jW (h:=h) (A:=A.in1) hh ?_ hg rfl (by rw [Array.size_append]; exact Nat.lt_of_lt_of_le (by decide:2 < 6) (Nat.le_add_right _ _)) (Heap.get?_push_of_some _ (Heap.get?_push_of_some _ ho)) hd h2 ?_
 · intro z
   rw [Heap.size_push] at z
   exact absurd hlt (by rw [z]; exact Nat.not_lt.mpr (Nat.le_succ _))
 have hu:=Heap.get?_update_self (Obj.mapFields (·.setIfInBounds 2 (.ref h))) hg rfl
 refine wpAny_bind (wpAny_isInstance (T:="StopIteration") (b:=true) ⟨_,hu,rfl⟩ isSubtype_stop ?_)
 refine wpAny_pure (k _ λb o hb e=>?_)
 have bl:=Heap.lt_size e
 rw [Heap.get?_update_other _ _ (by intro z; rw [Heap.size_push] at z; exact absurd bl (by rw [<- z]; exact Nat.not_lt.mpr (Nat.le_succ _)))]
 exact Heap.get?_push_of_some _ (Heap.get?_push_of_some _ e)
end
end Hx
set_option linter.all false
set_option maxRecDepth 100000
namespace L2
open PySem PySem.Spec PyProof.Rows
noncomputable abbrev Key:=Sum Int Str
noncomputable def rN:Key->Value->Bool
 | .inl k,v=>Value.isInt k v
 | .inr x,v=>Value.isStrOf x v
noncomputable def wt (w:World):Key->Int
 | .inl k=>hashInt k
 | .inr x=>hashStr w x
theorem aX:∀ {k:Key} {v:Value},rN k v=true->(∃ i t,k=Sum.inl i/\v=Value.int i t)\/(∃ x t,k=Sum.inr x/\v=Value.str x t)
 | .inl i,v,h=>by
   obtain ⟨t,e⟩:=Value.isInt_shape (k:=i) (v:=v) h
   exact .inl ⟨i,t,rfl,e⟩
 | .inr x,v,h=>by
   obtain ⟨t,e⟩:=Value.isStrOf_shape (x:=x) (v:=v) h
   exact .inr ⟨x,t,rfl,e⟩
theorem sV (a b:Int):decide ((Sum.inl a:Key)=Sum.inl b)=(a == b):=by
 by_cases e:a=b
 · subst e; simp
 · have h:¬ (Sum.inl a:Key)=Sum.inl b:=λq=>e (Sum.inl.inj q)
   rw [decide_eq_false h]
   exact (beq_eq_false_iff_ne.mpr e).symm
theorem uf (a b:Str):decide ((Sum.inr a:Key)=Sum.inr b)=decide (a=b):=by
 by_cases e:a=b
 · subst e; simp
 · have h:¬ (Sum.inr a:Key)=Sum.inr b:=λq=>e (Sum.inr.inj q)
   rw [decide_eq_false h,decide_eq_false e]
theorem tY (a:Int) (b:Str):decide ((Sum.inl a:Key)=Sum.inr b)=false:=decide_eq_false (λq=>nomatch q)
theorem tV (a:Str) (b:Int):decide ((Sum.inr a:Key)=Sum.inl b)=false:=decide_eq_false (λq=>nomatch q)
noncomputable def mD (prog:Program) (w:World):PySem.KeyKind prog w Key where
 is:=rN
 hash:=wt w
 inj:=λv a b ha hb=>by
   rcases aX ha with ⟨i,t,rfl,rfl⟩ | ⟨x,t,rfl,rfl⟩
   · rcases aX hb with ⟨j,u,rfl,e⟩ | ⟨y,u,rfl,e⟩
     · injection e with e1 _; rw [e1]
     · exact nomatch e
   · rcases aX hb with ⟨j,u,rfl,e⟩ | ⟨y,u,rfl,e⟩
     · exact nomatch e
     · injection e with e1 _; rw [e1]
 byValue:=λk v h=>by
   rcases aX h with ⟨i,t,rfl,rfl⟩ | ⟨x,t,rfl,rfl⟩ <;> rfl
 pyHash:=λhv h=>by
   rcases aX hv with ⟨i,t,rfl,rfl⟩ | ⟨x,t,rfl,rfl⟩
   · exact wpAny_pyHash_int h
   · exact wpAny_pyHash_str h
 eqBool:=λhu hv h=>by
   rcases aX hu with ⟨i,t,rfl,rfl⟩ | ⟨x,t,rfl,rfl⟩
   · rcases aX hv with ⟨j,u,rfl,rfl⟩ | ⟨y,u,rfl,rfl⟩
     · rw [sV] at h; exact wpAny_eqBool_int h
     · rw [tY] at h; exact SeqAt.EqAt.int_str i t y u _ _ _ _ h
   · rcases aX hv with ⟨j,u,rfl,rfl⟩ | ⟨y,u,rfl,rfl⟩
     · rw [tV] at h; exact SeqAt.EqAt.str_int x t j u _ _ _ _ h
     · rw [uf] at h; exact wpAny_eqBool_str h
 «strs»:=λk x t v h=>by
   rcases aX h with ⟨i,u,rfl,e⟩ | ⟨y,u,rfl,e⟩
   · exact nomatch e
   · injection e with e1 _
     subst e1
     cases v <;> rfl
inductive V where
 | non | bl (b:Bool) | int (i:Int) | str (x:Str) | byt (b:Array UInt8) | flt (b:UInt64) | ref (a:Addr) | ty (n:String)
 deriving DecidableEq
noncomputable def RelV:V->Value->Prop
 | .non,u=>u=Value.none
 | .bl b,u=>u=Value.bool b
 | .int i,u=>∃ t,u=Value.int i t
 | .str x,u=>∃ t,u=Value.str x t
 | .byt b,u=>∃ t,u=Value.bytes b t
 | .flt b,u=>∃ t,u=Value.float b t
 | .ref a,u=>u=Value.ref a
 | .ty n,u=>u=Value.type n
noncomputable abbrev Vals:List V->List Value->Prop:=Paired RelV
theorem Vals.length {xs:List V} {us:List Value} (r:Vals xs us):xs.length=us.length:=Paired.length r
theorem Vals.get:∀ {xs:List V} {us:List Value} {i:Nat} {x:V},Vals xs us->xs[i]?=some x->∃ u,us[i]?=some u/\RelV x u
 | _,_,_,_,.nil,e=>by simp at e
 | _,_,0,_,.cons r _,e=>by simp at e; subst e; exact ⟨_,rfl,r⟩
 | _,_,i + 1,x,.cons _ t,e=>by
   obtain ⟨u,h1,h2⟩:=Vals.get (i:=i) (x:=x) t (by simpa using e)
   exact ⟨u,by simpa using h1,h2⟩
theorem Vals.set {x:V} {u:Value} (r:RelV x u):∀ {xs:List V} {us:List Value} (i:Nat),Vals xs us->Vals (xs.set i x) (us.set i u)
 | _,_,_,.nil=>.nil
 | _,_,0,.cons _ t=>.cons r t
 | _,_,i + 1,.cons q t=>.cons q (Vals.set r i t)
theorem Vals.append:∀ {xs ys:List V} {us ws:List Value},Vals xs us->Vals ys ws->Vals (xs++ys) (us++ws)
 | _,_,_,_,.nil,s=>s
 | _,_,_,_,.cons r t,s=>.cons r (Vals.append t s)
theorem Vals.take:∀ {xs:List V} {us:List Value} (n:Nat),Vals xs us->Vals (xs.take n) (us.take n)
 | _,_,0,_=>.nil
 | _,_,_ + 1,.nil=>.nil
 | _,_,n + 1,.cons r t=>.cons r (Vals.take n t)
theorem Vals.drop:∀ {xs:List V} {us:List Value} (n:Nat),Vals xs us->Vals (xs.drop n) (us.drop n)
 | _,_,0,r=>r
 | _,_,_ + 1,.nil=>.nil
 | _,_,n + 1,.cons _ t=>Vals.drop n t
noncomputable def vi:Option V->Option Value->Prop
 | some v,some u=>RelV v u
 | none,none=>True
 | _,_=>False
noncomputable def KV {κ:Type}:List (κ × V)->List (κ × Value)->Prop:=Paired λ(p:κ × V) (q:κ × Value)=>p.1=q.1/\RelV p.2 q.2
noncomputable def kV:Key->V
 | .inl i=>.int i
 | .inr x=>.str x
inductive HO where
 | lst (xs:List V)
 | tup (xs:List V)
 | dK (kvs:List (Key × V)) | dT (kvs:List (List Key × V))
 | set (S:Int->Bool) (n:Nat)
 | ins (C dx:Addr) (fs:List (Str × V))
 | own (x:Addr)
 | xd (fs:List (Str × V))
 | met (f x:Addr)
 | rng (lo hi:Int)
 | frz (o:Obj) (u:HO)
 | tbl (ps:Array Value)
 | ext (φ:Heap->Prop)
noncomputable abbrev Hp:=Addr->Option HO
noncomputable def upd (H:Hp) (a:Addr) (o:HO):Hp:=λb=>if b=a then some o else H b
theorem aL {H:Hp} {a:Addr} {o:HO}:upd H a o a=some o:=by unfold upd; rw [if_pos rfl]
theorem aD {H:Hp} {a b:Addr} {o:HO} (h:b ≠ a):upd H a o b=H b:=by unfold upd; rw [if_neg h]
theorem aJ {H:Hp} {a b:Addr} {o:HO} (h:H a=some o) (h':H b=none):a ≠ b:=by
 intro e; subst e; rw [h] at h'; cases h'
section
variable (P:Program) (w:World)
noncomputable def bw (H:Hp) (h:Heap) (a:Addr):HO->Prop
 | .lst xs=>xs.length<=sizeLine/\∃ (its:List Value) (n:Nat),Vals xs its/\h.get? a=some { cls:=.type "list",data:=.seq its.toArray n }
 | .tup xs=>xs.length<=sizeLine/\∃ its:List Value,Vals xs its/\IsTup h a its.toArray
 | .dK kvs=>kvs.length<=sizeLine/\(a == sysModules)=false/\∃ vs,KV kvs vs/\h.DictOf (mD P w) a vs
 | .dT kvs=>kvs.length<=sizeLine/\(a == sysModules)=false/\∃ xs:List (List Key × Addr × Value),
     Paired (λ(p:List Key × V) (q:List Key × Addr × Value)=>p.1=q.1/\H q.2.1=some (.tup (p.1.map kV))/\RelV p.2 q.2.2) kvs xs /\
     ∃ o es ep,h.get? a=some o/\o.ExactDict/\o.data=.dict es ep/\es.toList=xs.map (entryOfKey (tupleKind (mD P w)))/\(xs.map (·.1)).Nodup
 | .set S n=>h.SetOf (intKind P w) a S n
 | .ins C dx fs=>H dx=some (.own a)/\fs.length<=1000/\dx ≠ a/\h.get? a=some (PySem.W.instObj C dx) /\
     ∃ mA,h.Ns1 dx mA/\(∀ f,vi (fs.lookup f) (mA f))/\PySem.Within mA (fs.map (·.1))
 | .own _=>∃ o,h.get? a=some o
 | .xd fs=>∃ mA,h.Ns1 a mA/\∀ f,vi (fs.lookup f) (mA f)
 | .rng lo hi=>∃ t u v,h.get? a=some { cls:=.type "range",data:=.fields #[.int lo t,.int hi u,.int 1 v] }
 | .frz o u=>h.get? a=some o/\bw H h a u
 | .tbl ps=>h.get? a=some { cls:=.none,data:=.fields ps }
 | .met f x=>h.get? a=some (PySem.W.methodObj (.ref f) (.ref x))
 | .ext φ=>φ h/\(∃ o,h.get? a=some o)/\∀ h1 h2:Heap,φ h1->(∀ o,h1.get? a=some o->h2.get? a=some o)->φ h2
noncomputable def HOk (H:Hp) (h:Heap):Prop:=∀ a o,H a=some o->bw P w H h a o
end
section
variable {P:Program} {w:World} {H H':Hp} {h h':Heap} {a:Addr} {o:HO}
theorem bw.lt (x:bw P w H h a o):a < h.objs.size:=by
 cases o with
 | lst xs=>obtain ⟨_,_,_,_,e⟩:=x; exact Heap.lt_size e
 | tup xs=>obtain ⟨_,_,_,p⟩:=x; exact p.lt
 | dK kvs=>obtain ⟨_,_,_,_,o,_,_,e,_⟩:=x; exact Heap.lt_size e
 | dT kvs=>obtain ⟨_,_,_,_,o,_,_,e,_⟩:=x; exact Heap.lt_size e
 | set S n=>obtain ⟨o,_,_,_,e,_⟩:=x; exact Heap.lt_size e
 | ins C dx fs=>obtain ⟨_,_,_,e,_⟩:=x; exact Heap.lt_size e
 | own y=>obtain ⟨_,e⟩:=x; exact Heap.lt_size e
 | xd fs=>obtain ⟨_,⟨_,_,_,e,_⟩,_⟩:=x; exact Heap.lt_size e
 | rng lo hi=>obtain ⟨_,_,_,e⟩:=x; exact Heap.lt_size e
 | frz ob u=>obtain ⟨e,_⟩:=x; exact Heap.lt_size e
 | tbl ps=>exact Heap.lt_size (show h.get? a=some _ from x)
 | met f y=>exact Heap.lt_size (show h.get? a=some _ from x)
 | ext φ=>obtain ⟨_,⟨_,e⟩,_⟩:=x; exact Heap.lt_size e
theorem Paired.uZ {α β:Type} {F G:α->β->Prop}:∀ {l₁:List α} {l₂:List β},Paired F l₁ l₂->(∀ a b,F a b->G a b)->Paired G l₁ l₂
 | _,_,.nil,_=>.nil
 | _,_,.cons r t,f=>.cons (f _ _ r) (Paired.uZ t f)
theorem bw.gm (x:bw P w H h a o) (k:∀ b u,(b=a\/H b=some (.own a))->h.get? b=some u->h'.get? b=some u)
   (ho:∀ b,H b=some (.own a)->H' b=some (.own a)) (ht:∀ b xs,H b=some (.tup xs)->H' b=some (.tup xs)):bw P w H' h' a o:=by
 induction o with
 | lst xs=>obtain ⟨z,its,n,r,e⟩:=x; exact ⟨z,its,n,r,k _ _ (.inl rfl) e⟩
 | tup xs=>obtain ⟨z,its,r,ob,e,c⟩:=x; exact ⟨z,its,r,ob,k _ _ (.inl rfl) e,c⟩
 | dK kvs=>obtain ⟨z,y,vs,r,ob,es,ep,e,c⟩:=x; exact ⟨z,y,vs,r,ob,es,ep,k _ _ (.inl rfl) e,c⟩
 | dT kvs=>
   obtain ⟨z,y,xs,r,ob,es,ep,e,c⟩:=x
   exact ⟨z,y,xs,Paired.uZ r λp q z=>⟨z.1,ht _ _ z.2.1,z.2.2⟩,ob,es,ep,k _ _ (.inl rfl) e,c⟩
 | set S n=>obtain ⟨ob,es,ep,t,e,c⟩:=x; exact ⟨ob,es,ep,t,k _ _ (.inl rfl) e,c⟩
 | ins C dx fs=>
   obtain ⟨d,z,ne,e,mA,⟨od,es,ep,e2,c⟩,r⟩:=x
   exact ⟨ho _ d,z,ne,k _ _ (.inl rfl) e,mA,⟨od,es,ep,k _ _ (.inr d) e2,c⟩,r⟩
 | own y=>obtain ⟨ob,e⟩:=x; exact ⟨ob,k _ _ (.inl rfl) e⟩
 | xd fs=>obtain ⟨mA,⟨od,es,ep,e,c⟩,r⟩:=x; exact ⟨mA,⟨od,es,ep,k _ _ (.inl rfl) e,c⟩,r⟩
 | rng lo hi=>obtain ⟨t,u,v,e⟩:=x; exact ⟨t,u,v,k _ _ (.inl rfl) e⟩
 | frz ob u ih=>obtain ⟨e,q⟩:=x; exact ⟨k _ _ (.inl rfl) e,ih q⟩
 | tbl ps=>
   have e:h.get? a=some { cls:=.none,data:=.fields ps }:=x
   show h'.get? a=some { cls:=.none,data:=.fields ps }
   exact k a _ (.inl rfl) e
 | met f y=>
   have e:h.get? a=some (PySem.W.methodObj (.ref f) (.ref y)):=x
   show h'.get? a=some (PySem.W.methodObj (.ref f) (.ref y))
   exact k a _ (.inl rfl) e
 | ext φ=>obtain ⟨p,⟨o,e⟩,st⟩:=x; exact ⟨st _ _ p λo q=>k _ _ (.inl rfl) q,⟨o,k _ _ (.inl rfl) e⟩,st⟩
theorem HOk.lt (x:HOk P w H h) (e:H a=some o):a < h.objs.size:=(x a o e).lt
theorem HOk.fresh (x:HOk P w H h) (e:h.objs.size<=a):H a=none:=by
 cases q:H a with
 | none=>rfl
 | some u=>exact absurd (Nat.lt_of_lt_of_le (x.lt q) e) (Nat.lt_irrefl _)
theorem HOk.kept (x:HOk P w H h) (k:∀ b u,h.get? b=some u->h'.get? b=some u):HOk P w H h':=λa o e=>
 (x a o e).gm (λb u _ q=>k b u q) (λ_ q=>q) λ_ _ q=>q
theorem HOk.laid (x:HOk P w H h) (k:∀ b u,h.get? b=some u->h'.get? b=some u) (hp:h.objs.size<=a) (new:bw P w (upd H a o) h' a o):HOk P w (upd H a o) h':=λb u e=>by
 have hn:=x.fresh hp
 by_cases hb:b=a
 · subst hb; rw [aL] at e; cases e; exact new
 · rw [aD hb] at e
   exact (x b u e).gm (λc v _ q=>k c v q) (λc q=>by rw [aD (aJ q hn)]; exact q) λc xs q=>by rw [aD (aJ q hn)]; exact q
end
noncomputable def Rd (H:Hp) (a:Addr) (u:HO):Prop:=H a=some u\/∃ o,H a=some (.frz o u)
theorem Rd.ok {P:Program} {w:World} {H:Hp} {h:Heap} {a:Addr} {u:HO} (r:Rd H a u) (x:HOk P w H h):bw P w H h a u:=by
 rcases r with r | ⟨o,r⟩
 · exact x a u r
 · obtain ⟨_,q⟩:=x a _ r
   exact q
noncomputable def Mut:Option HO->Prop
 | some (.lst _)=>True
 | some (.dK _)=>True
 | some (.dT _)=>True
 | some (.set _ _)=>True
 | some (.ins _ _ _)=>True
 | some (.ext _)=>True
 | _=>False
section
variable {P:Program} {w:World} {H:Hp} {h h':Heap} {x e:Addr} {o':HO}
theorem HOk.write (ok:HOk P w H h) (mu:Mut (H x)) (he:e=x\/H e=some (.own x)) (k:∀ b u,b ≠ e->h.get? b=some u->h'.get? b=some u) (heo:∃ u,h'.get? e=some u)
   (new:bw P w (upd H x o') h' x o'):HOk P w (upd H x o') h':=λb u q=>by
 have nown:∀ c y,H c=some (.own y)->c ≠ x:=λc y r z=>by subst z; rw [r] at mu; exact mu
 have ntup:∀ c xs,H c=some (.tup xs)->c ≠ x:=λc xs r z=>by subst z; rw [r] at mu; exact mu
 by_cases hb:b=x
 · subst hb; rw [aL] at q; cases q; exact new
 · rw [aD hb] at q
   by_cases hbe:b=e
   · have q':H b=some (.own x):=by
       rcases he with z | z
       · exact absurd (hbe.trans z) hb
       · rw [hbe]; exact z
     rw [q] at q'; cases q'
     obtain ⟨v,hv⟩:=heo
     exact ⟨v,by rw [hbe]; exact hv⟩
   · refine (ok b u q).gm (λc v hc r=>k c v ?_ r) (λc r=>by rw [aD (nown c b r)]; exact r) λc xs r=>by rw [aD (ntup c xs r)]; exact r
     rcases hc with rfl | hc
     · exact hbe
     · rintro rfl
       rcases he with z | z
       · exact nown c b hc z
       · rw [hc] at z; cases z; exact hb rfl
end
structure Un (fs ex:List Addr) (H H':Hp) (h h':Heap):Prop where
 keep:∀ b o,h.get? b=some o->H b=none->b ∉ fs->b ∉ ex->h'.get? b=some o
 slot:∀ b o,h.get? b=some o->H b=none->b ∈ fs->b ∉ ex->∃ sl,h'.get? b=some { o with slots:=sl }
 free:∀ b o,h.get? b=some o->H b=none->b ∉ ex->H' b=none
 there:∀ b o,h.get? b=some o->b ∉ ex->∃ o',h'.get? b=some o'
 tups:∀ b xs,H b=some (.tup xs)->H' b=some (.tup xs)
 frzs:∀ b o u,H b=some (.frz o u)->H' b=some (.frz o u)
 tbls:∀ b ps,H b=some (.tbl ps)->∃ more,H' b=some (.tbl (ps++more))
section
variable {fs fs' ex ex':List Addr} {H H1 H2:Hp} {h h1 h2 h':Heap} {a x e:Addr} {o:HO}
theorem Un.any (u:Un fs ex H H1 h h1) {b:Addr} {ob:Obj} (q:h.get? b=some ob) (n:H b=none) (hx:b ∉ ex):∃ sl,h1.get? b=some { ob with slots:=sl }:=by
 by_cases hb:b ∈ fs
 · exact u.slot b ob q n hb hx
 · exact ⟨ob.slots,u.keep b ob q n hb hx⟩
theorem Un.kept (k:∀ b u,h.get? b=some u->h'.get? b=some u):Un fs ex H H h h':=
 ⟨λb ob q _ _ _=>k b ob q,λb ob q _ _ _=>⟨ob.slots,k b ob q⟩,λ_ _ _ n _=>n,λb ob q _=>⟨ob,k b ob q⟩,λ_ _ q=>q,λ_ _ _ q=>q,λ_ ps q=>⟨#[],by rw [q]; simp⟩⟩
theorem Un.refl:Un fs ex H H h h:=Un.kept λ_ _ q=>q
theorem Un.laid (k:∀ b u,h.get? b=some u->h'.get? b=some u) (hp:h.objs.size<=a) (hn:H a=none):Un fs ex H (upd H a o) h h' where
 keep:=λb u q _ _ _=>k b u q
 slot:=λb u q _ _ _=>⟨u.slots,k b u q⟩
 free:=λb u q n _=>by rw [aD (Nat.ne_of_lt (Nat.lt_of_lt_of_le (Heap.lt_size q) hp))]; exact n
 there:=λb u q _=>⟨u,k b u q⟩
 tups:=λb xs q=>by rw [aD (aJ q hn)]; exact q
 frzs:=λb u xs q=>by rw [aD (aJ q hn)]; exact q
 tbls:=λb ps q=>⟨#[],by rw [aD (aJ q hn),q]; simp⟩
theorem Un.write (mu:Mut (H x)) (he:e=x\/H e=some (.own x)) (k:∀ b u,b ≠ e->h.get? b=some u->h'.get? b=some u) (heo:∃ u,h'.get? e=some u):Un fs ex H (upd H x o) h h':=by
 have hx:∀ b,H b=none->b ≠ x:=λb n z=>by subst z; rw [n] at mu; exact mu
 have hb:∀ b,H b=none->b ≠ e:=λb n z=>by
   subst z
   rcases he with r | r
   · exact hx b n r
   · rw [n] at r; cases r
 have hm:∀ b u,H b=some u->¬ Mut (some u)->b ≠ x:=λb u q nm z=>by subst z; rw [q] at mu; exact nm mu
 refine ⟨λb u q n _ _=>k b u (hb b n) q,λb u q n _ _=>⟨u.slots,k b u (hb b n) q⟩,λb u q n _=>by rw [aD (hx b n)]; exact n,λb u q _=>?_,
   λb xs q=>by rw [aD (hm b _ q λz=>z)]; exact q,λb u xs q=>by rw [aD (hm b _ q λz=>z)]; exact q,λb ps q=>⟨#[],by rw [aD (hm b _ q λz=>z),q]; simp⟩⟩
 by_cases hbe:b=e
 · subst hbe; exact heo
 · exact ⟨u,k b u hbe q⟩
end
noncomputable def trk (h:Heap) (H:Hp):List Addr:=(List.range h.objs.size).filter λa=>(H a).isSome
noncomputable def i5 (h:Heap) (H:Hp):Heap:=PySem.W.hideAll h (trk h H)
theorem n5 (h:Heap) (H:Hp):(i5 h H).objs.size=h.objs.size:=PySem.W.hideAll_size _ _
theorem pU {h:Heap} {H:Hp} {b:Addr} {o:Obj} (e:h.get? b=some o) (n:H b=none):(i5 h H).get? b=some o:=
 PySem.W.hideAll_get _ e λhm=>by
   have q:(H b).isSome=true:=(List.mem_filter.mp hm).2
   rw [n] at q; simp at q
theorem qY {h:Heap} {H:Hp} {b:Addr} {o:Obj} (e:(i5 h H).get? b=some o):h.get? b=some o/\H b=none:=by
 have e':h.get? b=some o:=PySem.W.of_hideAll (trk h H) e
 refine ⟨e',?_⟩
 cases q:H b with
 | none=>rfl
 | some x=>
   have hm:b ∈ trk h H:=List.mem_filter.mpr ⟨List.mem_range.mpr (Heap.lt_size e'),by simp [q]⟩
   have z:(i5 h H).get? b=none:=PySem.W.hideAll_none (trk h H) hm
   rw [z] at e; cases e
noncomputable def qe (g h:Heap) (L:Addr):List (Addr × Obj):=(List.range h.objs.size).filterMap λa=>if a=L\/(g.get? a).isSome=true then none else (h.get? a).map λo=>(a,o)
noncomputable def rest (g h:Heap) (L d:Addr):List (Addr × Obj):=(qe g h L).filter λp=>decide (p.1 ≠ d)
structure Mod (K:PySem.W.Frag) (mg:Str->Option Value) (base:Heap):Prop where
 kin:K.In base
 glob:base.Ns mainGlobals mg
 blt:∃ mb,base.Ns builtinsNs mb/\∀ x:Str,x ≠ "__name__" -> mb x=bootBuiltins x
 nolimit:base.NoLimit
structure Cx where
 prog:Program
 w:World
 K:PySem.W.Frag
 mg:Str->Option Value
 base:Heap
 A:Around
 N:List Str
 s₀:Shared
 H₀:Hp
 env:Env
 outer:List Env
 stack:List Env
 ex:List Addr
 fn:Str->Bool
 calm:Bool
 pn:List (Addr × Obj)
 xe:Value->Shared->Prop
noncomputable def frs (l:List Env):List Addr:=l.filterMap (·.frame)
noncomputable abbrev Cx.fs (X:Cx):List Addr:=frs X.outer
noncomputable def Vis (sc:Scope) (x:Str):Prop:=sc.names.lookup x=some .local\/sc.names.lookup x=some .cell\/sc.names.lookup x=some .free
noncomputable def Loc (sc:Scope) (x:Str):Prop:=sc.names.lookup x=some .local\/sc.names.lookup x=some .cell
noncomputable def Look (env:Env) (h:Heap) (m:Str->Option Value) (x:Str) (u:Value):Prop:=
 (env.kindOf x=some .local/\m x=some u)\/((env.kindOf x=some .cell\/env.kindOf x=some .free)/\∃ c,env.cells.lookup x=some c/\h.IsCell c (some u))
structure Cx.Ok (X:Cx):Prop where
 mod:Mod X.K X.mg X.base
 kind:X.env.scope.kind=.function
 glob:X.env.globals=mainGlobals
 blt:X.env.builtins=builtinsNs
 above:X.s₀.heap.objs.size<=X.env.locals
 inj:∀ x y c,X.env.cells.lookup x=some c->X.env.cells.lookup y=some c->x=y
 has:∀ x,(X.env.kindOf x=some .cell\/X.env.kindOf x=some .free)->∃ c,X.env.cells.lookup x=some c
 cab:∀ x c,X.fn x=true->X.env.cells.lookup x=some c->X.s₀.heap.objs.size<=c
 hd:X.calm=true->X.A.handled=none
 frames:X.A.frames=some X.stack
 stk:X.stack=X.outer\/(X.stack=X.env :: X.outer/\X.env.frame=some X.env.locals)
 exf:∀ b ∈ X.ex,b ≠ X.env.locals/\∀ x c,X.env.cells.lookup x=some c->c ≠ b
 bs:∀ b o,X.base.get? b=some o->X.s₀.heap.get? b=some o/\X.H₀ b=none
 bsz:X.base.objs.size<=X.s₀.heap.objs.size
 noex:∀ b o,X.base.get? b=some o->b ∉ X.ex
 exfs:∀ b ∈ X.ex,b ∉ X.fs
 gM:X.s₀.heap.FunFrames X.base X.outer
 frf:∀ b ∈ X.fs,X.H₀ b=none
structure Inv (X:Cx) (pins:List (Addr × Obj)) (σ:List (Option V)) (H:Hp) (s:Shared):Prop where
 ok:X.Ok
 os:s.os=X.s₀.os
 bare:AllBare s.gens
 base:Un X.fs X.ex X.H₀ H X.s₀.heap s.heap
 loc:∃ m,s.heap.Ns X.env.locals m/\∀ (i:Nat) (x:Str) (v:V),X.N[i]?=some x->σ[i]?=some (some v)->Vis X.env.scope x->∃ u,RelV v u/\Look X.env s.heap m x u
 cell:∀ x c,X.env.cells.lookup x=some c->∃ v,s.heap.IsCell c v
 free:H X.env.locals=none
 freeC:∀ x c,X.env.cells.lookup x=some c->H c=none
 pin:∀ p ∈ X.pn++pins,s.heap.get? p.1=some p.2/\H p.1=none/\p.1 ≠ X.env.locals/\p.1 ∉ X.fs/\∀ v,p.2.data ≠ .cell v
 hok:HOk X.prog X.w H s.heap
 len:σ.length=X.N.length
section
variable {X:Cx} {pins:List (Addr × Obj)} {σ:List (Option V)} {H H':Hp} {s:Shared} {h':Heap}
theorem Cx.Ok.wz (ok:X.Ok) {b:Addr} {o:Obj} (e:X.base.get? b=some o):b ∉ X.fs:=λhb=>by
 have:=(ok.gM.mem hb).1
 rw [e] at this; cases this
theorem Inv.bs (I:Inv X pins σ H s):∀ b o,X.base.get? b=some o->s.heap.get? b=some o/\H b=none:=λb o e=>
 ⟨I.base.keep b o (I.ok.bs b o e).1 (I.ok.bs b o e).2 (I.ok.wz e) (I.ok.noex b o e),I.base.free b o (I.ok.bs b o e).1 (I.ok.bs b o e).2 (I.ok.noex b o e)⟩
theorem Inv.bk (I:Inv X pins σ H s):∀ b o,X.base.get? b=some o->s.heap.get? b=some o:=λb o e=>(I.bs b o e).1
theorem Inv.mod (I:Inv X pins σ H s):Mod X.K X.mg X.base:=I.ok.mod
theorem Inv.kIn (I:Inv X pins σ H s):X.K.In s.heap:=I.ok.mod.kin.keeps I.bk
theorem Inv.lt (I:Inv X pins σ H s):X.env.locals < s.heap.objs.size:=let ⟨_,hn,_⟩:=I.loc; hn.lt
theorem Inv.sz (I:Inv X pins σ H s):X.s₀.heap.objs.size<=s.heap.objs.size:=Nat.le_trans I.ok.above (Nat.le_of_lt I.lt)
theorem Inv.wA (I:Inv X pins σ H s) {a:Addr} (h:s.heap.objs.size<=a):a ∉ X.fs:=λhb=>by
 obtain ⟨_,o,ho,_⟩:=I.ok.gM.mem hb
 exact absurd (Nat.lt_of_lt_of_le (Heap.lt_size ho) (Nat.le_trans I.sz h)) (Nat.lt_irrefl _)
theorem Inv.cne (I:Inv X pins σ H s):∀ x c,X.env.cells.lookup x=some c->c ≠ X.env.locals:=λx c e z=>by
 obtain ⟨v,o,ho,hd⟩:=I.cell x c e
 obtain ⟨m,⟨o',es,ep,ho',hd',_⟩,_⟩:=I.loc
 rw [z,ho'] at ho; cases ho; rw [hd'] at hd; cases hd
theorem Inv.gM (I:Inv X pins σ H s):s.heap.FunFrames X.base X.outer:=by
 have all:∀ (l:List Env),(∀ b ∈ frs l,b ∈ X.fs)->X.s₀.heap.FunFrames X.base l->s.heap.FunFrames X.base l:=by
   intro l
   induction l with
   | nil=>intro _ _; trivial
   | cons env r ih=>
     intro hs hl
     obtain ⟨hk,⟨L,o,hf,hn,ho,hd⟩,hr⟩:=hl
     have hL:L ∈ X.fs:=hs L (by unfold frs; rw [List.filterMap_cons,hf]; exact List.mem_cons_self)
     obtain ⟨sl,e⟩:=I.base.slot L o ho (I.ok.frf L hL) hL λz=>I.ok.exfs L z hL
     exact ⟨hk,⟨L,_,hf,hn,e,hd⟩,ih (λb hb=>hs b (by unfold frs; rw [List.filterMap_cons,hf]; exact List.mem_cons_of_mem _ hb)) hr⟩
 exact all X.outer (λ_ hb=>hb) I.ok.gM
theorem Inv.stack (I:Inv X pins σ H s):s.heap.FunFrames X.base X.stack:=by
 rcases I.ok.stk with e | ⟨e,hf⟩
 · rw [e]; exact I.gM
 · rw [e]
   obtain ⟨m,hn,_⟩:=I.loc
   refine .cons (by rw [I.ok.kind]; decide) hf hn ?_ I.gM
   exact Heap.get?_none_of_le (Nat.le_trans I.ok.bsz I.ok.above)
theorem Inv.lK (I:Inv X pins σ H s):∀ b ∈ frs X.stack,b ∈ X.env.locals :: X.fs:=λb hb=>by
 rcases I.ok.stk with e | ⟨e,hf⟩
 · rw [e] at hb; exact List.mem_cons_of_mem _ hb
 · rw [e] at hb
   unfold frs at hb
   rw [List.filterMap_cons,hf] at hb
   exact hb
theorem Inv.mf (I:Inv X pins σ H s):∀ b ∈ frs X.stack,H b=none:=λb hb=>by
 rcases List.mem_cons.mp (I.lK b hb) with e | hb
 · rw [e]; exact I.free
 · obtain ⟨_,o,ho,_⟩:=I.ok.gM.mem hb
   exact I.base.free b o ho (I.ok.frf b hb) λz=>I.ok.exfs b z hb
theorem Inv.step {g':Array GenState} {t':Nat} {d':Drawn} {ch:List Addr} (I:Inv X pins σ H s)
   (hch:∀ b ∈ ch,(b ∈ X.ex\/X.s₀.heap.objs.size<=b)/\b ≠ X.env.locals/\(∀ x c,X.env.cells.lookup x=some c->c ≠ b)/\∀ p ∈ X.pn++pins,p.1 ≠ b)
   (keep:∀ b o,b ≠ X.env.locals->b ∉ X.fs->b ∉ ch->s.heap.get? b=some o->H b=none->h'.get? b=some o)
   (slot:∀ b o,b ≠ X.env.locals->b ∈ X.fs->b ∉ ch->s.heap.get? b=some o->H b=none->∃ sl,h'.get? b=some { o with slots:=sl }) (free:∀ b o,b ∉ ch->s.heap.get? b=some o->H b=none->H' b=none)
   (there:∀ b o,b ∉ ch->s.heap.get? b=some o->∃ o',h'.get? b=some o')
   (tups:∀ b xs,H b=some (.tup xs)->H' b=some (.tup xs)) (frzs:∀ b o u,H b=some (.frz o u)->H' b=some (.frz o u)) (tbls:∀ b ps,H b=some (.tbl ps)->∃ more,H' b=some (.tbl (ps++more)))
   (ns:∀ m,s.heap.Ns X.env.locals m->h'.Ns X.env.locals m) (hok:HOk X.prog X.w H' h') (hg:AllBare g') :
   Inv X pins σ H' { s with heap:=h',gens:=g',drawn:=d',toks:=t' }:=by
 have neL:∀ b o,X.s₀.heap.get? b=some o->b ≠ X.env.locals:=λb o e=>Nat.ne_of_lt (Nat.lt_of_lt_of_le (Heap.lt_size e) I.ok.above)
 have neC:∀ b o,X.s₀.heap.get? b=some o->b ∉ X.ex->b ∉ ch:=λb o e hx hb=>by
   rcases (hch b hb).1 with z | z
   · exact hx z
   · exact absurd (Nat.lt_of_lt_of_le (Heap.lt_size e) z) (Nat.lt_irrefl _)
 have cellK:∀ x c,X.env.cells.lookup x=some c->∀ v,s.heap.IsCell c v->h'.IsCell c v:=λx c e v ⟨o,ho,hd⟩=>by
   have nch:c ∉ ch:=λz=>(hch c z).2.2.1 x c e rfl
   by_cases hc:c ∈ X.fs
   · obtain ⟨sl,q⟩:=slot c o (I.cne x c e) hc nch ho (I.freeC x c e)
     exact ⟨_,q,hd⟩
   · exact ⟨o,keep c o (I.cne x c e) hc nch ho (I.freeC x c e),hd⟩
 refine ⟨I.ok,I.os,hg,⟨λb o e n hb hx=>?_,λb o e n hb hx=>?_,λb o e n hx=>?_,λb o e hx=>?_,λb xs e=>tups b xs (I.base.tups b xs e),λb o xs e=>frzs b o xs (I.base.frzs b o xs e),λb ps e=>?_⟩,?_,λx c e=>?_,?_,λx c e=>?_,λp hp=>?_,hok,I.len⟩
 · exact keep b o (neL b o e) hb (neC b o e hx) (I.base.keep b o e n hb hx) (I.base.free b o e n hx)
 · obtain ⟨sl,e1⟩:=I.base.slot b o e n hb hx
   obtain ⟨sl',e2⟩:=slot b _ (neL b o e) hb (neC b o e hx) e1 (I.base.free b o e n hx)
   exact ⟨sl',e2⟩
 · obtain ⟨o',e1⟩:=I.base.there b o e hx
   exact free b o' (neC b o e hx) e1 (I.base.free b o e n hx)
 · obtain ⟨o',e1⟩:=I.base.there b o e hx
   exact there b o' (neC b o e hx) e1
 · obtain ⟨m1,e1⟩:=I.base.tbls b ps e
   obtain ⟨m2,e2⟩:=tbls b _ e1
   exact ⟨m1++m2,by rw [e2,Array.append_assoc]⟩
 · obtain ⟨m,hn,hl⟩:=I.loc
   refine ⟨m,ns m hn,λi x v e1 e2 e3=>?_⟩
   obtain ⟨u,r,l⟩:=hl i x v e1 e2 e3
   refine ⟨u,r,?_⟩
   rcases l with l | ⟨k,c,e,z⟩
   · exact .inl l
   · exact .inr ⟨k,c,e,cellK x c e _ z⟩
 · obtain ⟨v,z⟩:=I.cell x c e
   exact ⟨v,cellK x c e v z⟩
 · obtain ⟨m,⟨o,_,_,ho,_⟩,_⟩:=I.loc
   exact free _ o (λz=>(hch _ z).2.1 rfl) ho I.free
 · obtain ⟨v,o,ho,hd⟩:=I.cell x c e
   exact free c o (λz=>(hch c z).2.2.1 x c e rfl) ho (I.freeC x c e)
 · obtain ⟨e,n,ne,nf,d⟩:=I.pin p hp
   have nch:p.1 ∉ ch:=λz=>(hch p.1 z).2.2.2 p hp rfl
   exact ⟨keep p.1 p.2 ne nf nch e n,free p.1 p.2 nch e n,ne,nf,d⟩
theorem Inv.un {t':Nat} (I:Inv X pins σ H s) (u:Un X.fs [] H H' s.heap h') (hok:HOk X.prog X.w H' h'):Inv X pins σ H' { s with heap:=h',toks:=t' }:=by
 obtain ⟨m,⟨o,es,ep,ho,r⟩,_⟩:=id I.loc
 obtain ⟨sl,hL⟩:=u.any ho I.free (by simp)
 exact I.step (g':=s.gens) (d':=s.drawn) (ch:=[]) (λ_ z=>nomatch z) (λb o _ hb _ e n=>u.keep b o e n hb (by simp)) (λb o _ hb _ e n=>u.slot b o e n hb (by simp)) (λb o _ e n=>u.free b o e n (by simp)) (λb o _ e=>u.there b o e (by simp)) u.tups u.frzs u.tbls (λm' hm=>by
   obtain ⟨o',es',ep',ho',r'⟩:=hm
   rw [ho] at ho'; cases ho'
   exact ⟨_,es',ep',hL,r'⟩) hok I.bare
theorem Inv.call {g':Array GenState} {t':Nat} {d':Drawn} {ch:List Addr} (I:Inv X pins σ H s) (u:Un (frs X.stack) ch H H' s.heap h') (hok:HOk X.prog X.w H' h') (hg:AllBare g')
   (hch:∀ b ∈ ch,(b ∈ X.ex\/X.s₀.heap.objs.size<=b)/\b ≠ X.env.locals/\(∀ x c,X.env.cells.lookup x=some c->c ≠ b)/\∀ p ∈ X.pn++pins,p.1 ≠ b) :
   Inv X pins σ H' { s with heap:=h',gens:=g',drawn:=d',toks:=t' }:=by
 obtain ⟨m,⟨o,es,ep,ho,r⟩,_⟩:=id I.loc
 obtain ⟨sl,hL⟩:=u.any ho I.free λz=>(hch _ z).2.1 rfl
 exact I.step (ch:=ch) hch (λb o hL hb hc e n=>u.keep b o e n (λz=>(List.mem_cons.mp (I.lK b z)).elim hL hb) hc) (λb o _ _ hc e n=>u.any e n hc) (λb o hc e n=>u.free b o e n hc) (λb o hc e=>u.there b o e hc) u.tups u.frzs u.tbls (λm' hm=>by
   obtain ⟨o',es',ep',ho',r'⟩:=hm
   rw [ho] at ho'; cases ho'
   exact ⟨_,es',ep',hL,r'⟩) hok hg
theorem Inv.turned {t':Nat} {it:Addr} (I:Inv X pins σ H s) (k:∀ b o,b ≠ it->s.heap.get? b=some o->h'.get? b=some o) (hn:H it=none) (hL:it ≠ X.env.locals)
   (h1:it ∈ X.ex\/X.s₀.heap.objs.size<=it) (h2:∀ x c,X.env.cells.lookup x=some c->c ≠ it) (h3:∀ p ∈ X.pn++pins,p.1 ≠ it):Inv X pins σ H { s with heap:=h',toks:=t' }:=by
 have nit:∀ b u,H b=some u->b ≠ it:=λb u e z=>by rw [z,hn] at e; cases e
 refine I.step (g':=s.gens) (d':=s.drawn) (ch:=[it]) (λb hb=>?_) (λb o _ _ hc e _=>k b o (λz=>hc (by simp [z])) e) (λb o _ _ hc e _=>⟨o.slots,k b o (λz=>hc (by simp [z])) e⟩) (λ_ _ _ _ n=>n)
   (λb o hc e=>⟨o,k b o (λz=>hc (by simp [z])) e⟩) (λ_ _ e=>e) (λ_ _ _ e=>e) (λb ps e=>⟨#[],by rw [e]; simp⟩) (λm hm=>?_) (λb u e=>?_) I.bare
 · have e:b=it:=by simpa using hb
   subst e
   exact ⟨h1,hL,h2,h3⟩
 · obtain ⟨o,es,ep,ho,r⟩:=hm
   exact ⟨o,es,ep,k _ o (Ne.symm hL) ho,r⟩
 · refine (I.hok b u e).gm (λc v hc q=>k c v ?_ q) (λ_ q=>q) λ_ _ q=>q
   rcases hc with z | z
   · rw [z]; exact nit b u e
   · exact nit c _ z
theorem Inv.tok (I:Inv X pins σ H s) (t:Nat):Inv X pins σ H { s with toks:=t }:=I.un (h':=s.heap) (t':=t) Un.refl I.hok
theorem Inv.kept {t':Nat} (I:Inv X pins σ H s) (k:∀ b u,s.heap.get? b=some u->h'.get? b=some u):Inv X pins σ H { s with heap:=h',toks:=t' }:=I.un (Un.kept k) (I.hok.kept k)
theorem Inv.laid {a:Addr} {o:HO} {t':Nat} (I:Inv X pins σ H s) (k:∀ b u,s.heap.get? b=some u->h'.get? b=some u) (hp:s.heap.objs.size<=a) (new:bw X.prog X.w (upd H a o) h' a o) :
   Inv X pins σ (upd H a o) { s with heap:=h',toks:=t' }:=I.un (Un.laid k hp (I.hok.fresh hp)) (I.hok.laid k hp new)
theorem Inv.write {x e:Addr} {o:HO} {t':Nat} (I:Inv X pins σ H s) (mu:Mut (H x)) (he:e=x\/H e=some (.own x)) (k:∀ b u,b ≠ e->s.heap.get? b=some u->h'.get? b=some u) (heo:∃ u,h'.get? e=some u)
   (new:bw X.prog X.w (upd H x o) h' x o):Inv X pins σ (upd H x o) { s with heap:=h',toks:=t' }:=I.un (Un.write mu he k heo) (I.hok.write mu he k heo new)
theorem Inv.mO {pins':List (Addr × Obj)} (I:Inv X pins σ H s) (h:∀ p ∈ pins',s.heap.get? p.1=some p.2/\H p.1=none/\p.1 ≠ X.env.locals/\p.1 ∉ X.fs/\∀ v,p.2.data ≠ .cell v):Inv X pins' σ H s:=
 ⟨I.ok,I.os,I.bare,I.base,I.loc,I.cell,I.free,I.freeC,λp hp=>(List.mem_append.mp hp).elim (λz=>I.pin p (List.mem_append_left _ z)) (h p),I.hok,I.len⟩
theorem kA {N:List Str} (hN:N.Nodup) {i j:Nat} {x:Str} (a:N[i]?=some x) (b:N[j]?=some x):i=j:=by
 obtain ⟨h1,e1⟩:=List.getElem?_eq_some_iff.mp a
 obtain ⟨h2,e2⟩:=List.getElem?_eq_some_iff.mp b
 exact (List.getElem_inj hN).mp (e1.trans e2.symm)
theorem nH {M:Model} {A:Around} {E:Value->Shared->Prop} {i:Nat} {x:Str} {v:V} {u:Value} {Q:Unit->Shared->Prop} (I:Inv X pins σ H s) (hN:X.N.Nodup) (hi:X.N[i]?=some x) (hx:Loc X.env.scope x) (r:RelV v u)
   (h:∀ s',Inv X pins (σ.set i (some v)) H s'->(∃ a,Heap.SameBut a s.heap s'.heap/\(a=X.env.locals\/X.env.cells.lookup x=some a))->Q () s') (hf:X.fn x=true\/X.env.scope.names.lookup x=some .local:=by first | exact .inl rfl | exact .inr rfl | assumption):wpAny M A (storeName X.env x u) Q E s:=by
 obtain ⟨m,hn,hl⟩:=id I.loc
 have hcls:(X.env.scope.kind == .class || (X.env.scope.kind == .module && X.env.locals != X.env.globals))=false:=by rw [I.ok.kind]; rfl
 have hiσ:i < σ.length:=by rw [I.len]; exact (List.getElem?_eq_some_iff.mp hi).1
 have cne:=I.cne
 have tracked:∀ {a:Addr} {h':Heap},(∃ o,s.heap.get? a=some o/\H a=none)->Heap.SameBut a s.heap h'->HOk X.prog X.w H h':=λ{a h'} ha hs b ob e=>by
   obtain ⟨_,_,hfree⟩:=ha
   refine (I.hok b ob e).gm (λc w' hc q=>(hs.2 c ?_).trans q) (λ_ q=>q) λ_ _ q=>q
   rintro rfl
   rcases hc with rfl | hc
   · rw [hfree] at e; cases e
   · rw [hfree] at hc; cases hc
 rcases hx with hk | hk
 · refine wpAny_storeName_local hk hn (λh' hn' hs=>?_) hcls
   obtain ⟨oL,_,_,hoL,_⟩:=id hn
   refine h _ ⟨I.ok,I.os,I.bare,⟨λb o e n hb hx=>?_,λb o e n hb hx=>?_,I.base.free,λb o e hx=>?_,I.base.tups,I.base.frzs,I.base.tbls⟩,⟨_,hn',λj y v' e1 e2 e3=>?_⟩,λy c e=>?_,I.free,I.freeC,λp hp=>?_,tracked ⟨oL,hoL,I.free⟩ hs,by simpa using I.len⟩ ⟨_,hs,.inl rfl⟩
   · exact (hs.2 b (Nat.ne_of_lt (Nat.lt_of_lt_of_le (Heap.lt_size e) I.ok.above))).trans (I.base.keep b o e n hb hx)
   · obtain ⟨sl,e1⟩:=I.base.slot b o e n hb hx
     exact ⟨sl,(hs.2 b (Nat.ne_of_lt (Nat.lt_of_lt_of_le (Heap.lt_size e) I.ok.above))).trans e1⟩
   · obtain ⟨o',e1⟩:=I.base.there b o e hx
     exact ⟨o',(hs.2 b (Nat.ne_of_lt (Nat.lt_of_lt_of_le (Heap.lt_size e) I.ok.above))).trans e1⟩
   · by_cases hj:j=i
     · subst hj
       rw [hi] at e1; cases e1
       rw [List.getElem?_set_self hiσ] at e2
       cases e2
       exact ⟨u,r,.inl ⟨hk,by simp⟩⟩
     · rw [List.getElem?_set_ne (Ne.symm hj)] at e2
       obtain ⟨u',r',q⟩:=hl j y v' e1 e2 e3
       refine ⟨u',r',?_⟩
       rcases q with ⟨k,e⟩ | ⟨k,c,e,z⟩
       · refine .inl ⟨k,?_⟩
         have:y ≠ x:=λe=>hj (kA hN e1 (e ▸ hi))
         simp [this,e]
       · exact .inr ⟨k,c,e,z.sameBut hs (cne y c e)⟩
   · obtain ⟨w',z⟩:=I.cell y c e
     exact ⟨w',z.sameBut hs (cne y c e)⟩
   · obtain ⟨e,n,ne,nf,d⟩:=I.pin p hp
     exact ⟨(hs.2 p.1 ne).trans e,n,ne,nf,d⟩
 · have hfn:X.fn x=true:=by
     rcases hf with z | z
     · exact z
     · rw [z] at hk; cases hk
   obtain ⟨c,hc⟩:=I.ok.has x (.inl hk)
   obtain ⟨w',z⟩:=I.cell x c hc
   refine wpAny_storeName_cell I.ok.kind hk hc z (λh' hc' hs=>?_)
   obtain ⟨oc,hoc,hocd⟩:=id z
   refine h { s with heap:=h' } ⟨I.ok,I.os,I.bare,⟨λb o e n hb hx=>?_,λb o e n hb hx=>?_,I.base.free,λb o e hx=>?_,I.base.tups,I.base.frzs,I.base.tbls⟩,⟨m,hn.sameBut hs (Ne.symm (cne x c hc)),λj y v' e1 e2 e3=>?_⟩,λy c' e=>?_,I.free,I.freeC,λp hp=>?_,tracked ⟨oc,hoc,I.freeC x c hc⟩ hs,by simpa using I.len⟩ ⟨c,hs,.inr hc⟩
   · exact (hs.2 b (Nat.ne_of_lt (Nat.lt_of_lt_of_le (Heap.lt_size e) (I.ok.cab x c hfn hc)))).trans (I.base.keep b o e n hb hx)
   · obtain ⟨sl,e1⟩:=I.base.slot b o e n hb hx
     exact ⟨sl,(hs.2 b (Nat.ne_of_lt (Nat.lt_of_lt_of_le (Heap.lt_size e) (I.ok.cab x c hfn hc)))).trans e1⟩
   · obtain ⟨o',e1⟩:=I.base.there b o e hx
     exact ⟨o',(hs.2 b (Nat.ne_of_lt (Nat.lt_of_lt_of_le (Heap.lt_size e) (I.ok.cab x c hfn hc)))).trans e1⟩
   · by_cases hj:j=i
     · subst hj
       rw [hi] at e1; cases e1
       rw [List.getElem?_set_self hiσ] at e2
       cases e2
       exact ⟨u,r,.inr ⟨.inl hk,c,hc,hc'⟩⟩
     · rw [List.getElem?_set_ne (Ne.symm hj)] at e2
       obtain ⟨u',r',q⟩:=hl j y v' e1 e2 e3
       refine ⟨u',r',?_⟩
       rcases q with q | ⟨k,c',e,z'⟩
       · exact .inl q
       · refine .inr ⟨k,c',e,z'.sameBut hs ?_⟩
         rintro rfl
         exact hj (kA hN e1 (I.ok.inj _ _ _ e hc ▸ hi))
   · by_cases hcc:c'=c
     · subst hcc; exact ⟨_,hc'⟩
     · obtain ⟨w2,z2⟩:=I.cell y c' e
       exact ⟨w2,z2.sameBut hs hcc⟩
   · obtain ⟨e,n,ne,nf,d⟩:=I.pin p hp
     refine ⟨(hs.2 p.1 ?_).trans e,n,ne,nf,d⟩
     intro q
     rw [q,hoc] at e
     have q':oc=p.2:=Option.some.inj e
     exact d w' (by rw [<- q']; exact hocd)
theorem kf {M:Model} {A:Around} {E:Value->Shared->Prop} {i:Nat} {x:Str} {v:V} {u:Value} {Q:Unit->Shared->Prop} (I:Inv X pins σ H s) (hN:X.N.Nodup) (hi:X.N[i]?=some x) (hx:Loc X.env.scope x) (r:RelV v u)
   (h:∀ s',Inv X pins (σ.set i (some v)) H s'->Q () s') (hf:X.fn x=true\/X.env.scope.names.lookup x=some .local:=by first | exact .inl rfl | exact .inr rfl | assumption):wpAny M A (storeName X.env x u) Q E s:=
 nH I hN hi hx r (λs' I' _=>h s' I') hf
theorem Inv.rH {s':Shared} {ch:List Addr} (I:Inv X pins σ H s) (ho:s'.os=s.os) (u:Un (frs X.stack) ch H H' s.heap s'.heap) (hok:HOk X.prog X.w H' s'.heap) (hg:AllBare s'.gens)
   (hch:∀ b ∈ ch,(b ∈ X.ex\/X.s₀.heap.objs.size<=b)/\b ≠ X.env.locals/\(∀ x c,X.env.cells.lookup x=some c->c ≠ b)/\∀ p ∈ X.pn++pins,p.1 ≠ b):Inv X pins σ H' s':=by
 obtain ⟨h',g',d',t',o'⟩:=s'
 have e:o'=s.os:=ho
 subst e
 exact I.call (g':=g') (t':=t') (d':=d') u hok hg hch
end
noncomputable abbrev XK:=Value->Option Addr->Hp->Prop
noncomputable abbrev St:=List (Option V)
noncomputable abbrev VK:=V->Hp->Prop
noncomputable abbrev TE:=St->Hp->VK->Prop
noncomputable abbrev TT:=St->Hp->(Bool->Hp->Prop)->Prop
noncomputable abbrev TA:=St->Hp->(List V->Hp->Prop)->Prop
structure Ends where
 nx:St->Hp->Prop
 rt:VK
 bk:St->Hp->Prop:=λ_ _=>False
 ct:St->Hp->Prop:=λ_ _=>False
noncomputable abbrev TS:=Ends->St->Hp->Prop
noncomputable def EP (X:Cx) (pins:List (Addr × Obj)) (σ:St) (Q:VK) (u:Value) (s':Shared):Prop:=∃ v H',Inv X pins σ H' s'/\RelV v u/\Q v H'
noncomputable def TP (X:Cx) (pins:List (Addr × Obj)) (σ:St) (Q:Bool->Hp->Prop) (b:Bool) (s':Shared):Prop:=∃ H',Inv X pins σ H' s'/\Q b H'
noncomputable def AP (X:Cx) (pins:List (Addr × Obj)) (σ:St) (Q:List V->Hp->Prop) (us:List Value) (s':Shared):Prop:=∃ vs H',Inv X pins σ H' s'/\Vals vs us/\Q vs H'
noncomputable def SP (X:Cx) (pins:List (Addr × Obj)) (D:Ends) (f:Flow) (s':Shared):Prop:=
 match f with
 | .next=>∃ σ' H',Inv X pins σ' H' s'/\D.nx σ' H'
 | .brk=>∃ σ' H',Inv X pins σ' H' s'/\D.bk σ' H'
 | .cont=>∃ σ' H',Inv X pins σ' H' s'/\D.ct σ' H'
 | .ret u=>∃ v σ' H',Inv X pins σ' H' s'/\RelV v u/\D.rt v H'
noncomputable def PE (X:Cx) (e:Expr) (t:TE):Prop:=
 ∀ (pins:List (Addr × Obj)) (s:Shared) (σ:St) (H:Hp) (Q:VK),Inv X pins σ H s->t σ H Q->wpAny (model X.prog X.w) X.A (eval e X.env) (EP X pins σ Q) X.xe s
noncomputable def PT (X:Cx) (e:Expr) (t:TT):Prop:=
 ∀ (pins:List (Addr × Obj)) (s:Shared) (σ:St) (H:Hp) (Q:Bool->Hp->Prop),Inv X pins σ H s->t σ H Q->wpAny (model X.prog X.w) X.A (isTrue e X.env (eval e X.env)) (TP X pins σ Q) X.xe s
noncomputable def PW (X:Cx) (e:Expr) (t:TT):Prop:=
 ∀ (whole:Sem Value) (pins:List (Addr × Obj)) (s:Shared) (σ:St) (H:Hp) (Q:Bool->Hp->Prop),Inv X pins σ H s->t σ H Q->wpAny (model X.prog X.w) X.A (isTrue e X.env whole) (TP X pins σ Q) X.xe s
theorem PW.pt {X:Cx} {e:Expr} {t:TT} (h:PW X e t):PT X e t:=h _
noncomputable def PA (X:Cx) (es:List Expr) (t:TA):Prop:=
 ∀ (pos:Pos) (pins:List (Addr × Obj)) (s:Shared) (σ:St) (H:Hp) (Q:List V->Hp->Prop),Inv X pins σ H s->t σ H Q->wpAny (model X.prog X.w) X.A (spliced (backTo pos (starEach es X.env))) (AP X pins σ Q) X.xe s
noncomputable def PS (X:Cx) (st:Stmt) (t:TS):Prop:=
 ∀ (pins:List (Addr × Obj)) (s:Shared) (σ:St) (H:Hp) (D:Ends),Inv X pins σ H s->t D σ H->wpAny (model X.prog X.w) X.A (exec st X.env) (SP X pins D) X.xe s
noncomputable def PSs (X:Cx) (st:List Stmt) (t:TS):Prop:=
 ∀ (pins:List (Addr × Obj)) (s:Shared) (σ:St) (H:Hp) (D:Ends),Inv X pins σ H s->t D σ H->wpAny (model X.prog X.w) X.A (execs st X.env) (SP X pins D) X.xe s
theorem thn {α:Type} {t:Sem α} {Q Q':α->Shared->Prop} {M:Model} {A:Around} {E:Value->Shared->Prop} {s:Shared} (h:wpAny M A t Q E s) (hQ:∀ a s,Q a s->Q' a s):wpAny M A t Q' E s:=wpAny_mono h hQ λ_ _ x=>x
section
variable {X:Cx}
theorem bin {a b:Expr} {ta tb:TE} (ha:PE X a ta) (hb:PE X b tb) {pins:List (Addr × Obj)} {s:Shared} {σ:St} {H:Hp} {R:V->V->Hp->Prop} (I:Inv X pins σ H s) (h:ta σ H λx H1=>tb σ H1 λy H2=>R x y H2)
   {α:Type} {Q:α->Shared->Prop} {f:Value->Value->Sem α}
   (hf:∀ v u s2 x y H2,Inv X pins σ H2 s2->RelV x v->RelV y u->R x y H2->wpAny (model X.prog X.w) X.A (f v u) Q X.xe s2) :
   wpAny (model X.prog X.w) X.A (eval a X.env) (λv s₁=>wpAny (model X.prog X.w) X.A (eval b X.env) (λu s₂=>wpAny (model X.prog X.w) X.A (f v u) Q X.xe s₂) X.xe s₁) X.xe s:=by
 refine thn (ha pins s σ H _ I h) λv s1 ⟨x,H1,I1,r1,q1⟩=>?_
 refine thn (hb pins s1 σ H1 _ I1 q1) λu s2 ⟨y,H2,I2,r2,q2⟩=>?_
 exact hf v u s2 x y H2 I2 r1 r2 q2
noncomputable def vS (i:Nat):TE:=λσ H Q=>∃ v,σ[i]?=some (some v)/\Q v H
noncomputable def tC (v:V):TE:=λ_ H Q=>Q v H
theorem eg {i:Nat} {x:Str} {pos:Pos} (hN:X.N[i]?=some x) (hv:Vis X.env.scope x) (hd:(x == ("__debug__" : Str))=false:=by decide) (hcd:(x == ("__classdict__" : Str))=false:=by decide):PE X (.Name x pos) (vS i):=by
 intro pins s σ H Q I h
 obtain ⟨v,e,h⟩:=h
 obtain ⟨m,hn,hl⟩:=I.loc
 obtain ⟨u,r,l⟩:=hl i x v hN e hv
 have fin:EP X pins σ Q u s:=⟨v,H,I,r,h⟩
 rcases l with ⟨hk,hm⟩ | ⟨hk,c,hc,hcell⟩
 · exact wpAny_Name (wpAny_loadName_local I.ok.kind hk hn hm fin) hd
 · rcases hk with hk | hk
   · exact wpAny_Name (wpAny_loadName_cell I.ok.kind hk hc hcell fin) hd
   · exact wpAny_Name (wpAny_loadName_free I.ok.kind hk hc hcell fin hcd) hd
theorem sU {i j pos}:PE X (.Constant (.int i) j pos) (tC (.int i)):=λ_ _ _ H _ I h=>wpAny_Constant_int ⟨.int i,H,I.tok _,⟨_,rfl⟩,h⟩
theorem va {b j pos}:PE X (.Constant (.bool b) j pos) (tC (.bl b)):=λ_ _ _ H _ I h=>Constant_bool ⟨.bl b,H,I,rfl,h⟩
theorem t5 {j pos}:PE X (.Constant .none j pos) (tC .non):=λ_ _ _ H _ I h=>Constant_none ⟨.non,H,I,rfl,h⟩
noncomputable def Gl (X:Cx) (x:Str):Prop:=X.env.kindOf x=some .globalImplicit
theorem mU {E:Value->Shared->Prop} {pins:List (Addr × Obj)} {s:Shared} {σ:St} {H:Hp} {x:Str} {u:Value} {pos:Pos} {Q:Value->Shared->Prop} (I:Inv X pins σ H s) (hg:Gl X x) (hm:X.mg x=some u) (h:Q u s)
   (hd:(x == ("__debug__" : Str))=false:=by decide):wpAny (model X.prog X.w) X.A (eval (.Name x pos) X.env) Q E s:=
 Calls.Name_function_global I.ok.kind hg (Calls.loadGlobal_global (by rw [I.ok.glob]; exact I.mod.glob.keeps I.bk) hm h) hd
theorem ee {E:Value->Shared->Prop} {pins:List (Addr × Obj)} {s:Shared} {σ:St} {H:Hp} {x:Str} {u:Value} {pos:Pos} {Q:Value->Shared->Prop} (I:Inv X pins σ H s) (hg:Gl X x) (hm:X.mg x=none) (hv:bootBuiltins x=some u) (h:Q u s)
   (hn:x ≠ "__name__":=by decide) (hd:(x == ("__debug__" : Str))=false:=by decide):wpAny (model X.prog X.w) X.A (eval (.Name x pos) X.env) Q E s:=by
 obtain ⟨mb,h1,h2⟩:=I.mod.blt
 exact Calls.Name_function_global I.ok.kind hg (Calls.loadGlobal_builtin (by rw [I.ok.glob]; exact I.mod.glob.keeps I.bk) hm (by rw [I.ok.blt]; exact h1.keeps I.bk) ((h2 x hn).trans hv) h) hd
theorem qz {x:Str} {v:V} {u:Value} {pos:Pos} (hg:Gl X x) (hm:X.mg x=some u) (r:RelV v u) (hd:(x == ("__debug__" : Str))=false:=by decide):PE X (.Name x pos) (tC v):=
 λ_ _ _ H _ I h=>mU I hg hm ⟨v,H,I,r,h⟩ hd
theorem qI {x:Str} {v:V} {u:Value} {pos:Pos} (hg:Gl X x) (hm:X.mg x=none) (hv:bootBuiltins x=some u) (r:RelV v u) (hn:x ≠ "__name__":=by decide) (hd:(x == ("__debug__" : Str))=false:=by decide):PE X (.Name x pos) (tC v):=
 λ_ _ _ H _ I h=>ee I hg hm hv ⟨v,H,I,r,h⟩ hn hd
variable {a b:Expr} {ta tb:TE} {pos:Pos}
noncomputable def PC (X:Cx) (op:CmpOp) (a b:Expr) (t:TE):Prop:=
 ∀ (pins:List (Addr × Obj)) (s:Shared) (σ:St) (H:Hp) (Q:VK),Inv X pins σ H s->t σ H Q ->
   wpAny (model X.prog X.w) X.A (eval a X.env) (λv s₁=>wpAny (model X.prog X.w) X.A (eval b X.env) (λu s₂=>wpAny (model X.prog X.w) X.A (compareOp op v u) (EP X pins σ Q) X.xe s₂) X.xe s₁) X.xe s
theorem oQ (b:Expr) {op:CmpOp} (h:op ≠ .In) (h2:op ≠ .NotIn):behindInMarks op b=false:=by
 have e1:(op == CmpOp.In)=false:=by cases op <;> first | rfl | exact absurd rfl h
 have e2:(op == CmpOp.NotIn)=false:=by cases op <;> first | rfl | exact absurd rfl h2
 cases b <;> simp [behindInMarks,e1,e2]
noncomputable def tB (t:TE):TT:=λσ H Q=>t σ H λx H1=>∃ c,x=.bl c/\Q c H1
theorem vW {op:CmpOp} {t:TE} (h:PC X op a b t) (h1:behindInMarks op b=false:=by first | exact oQ _ (by decide) (by decide) | rfl):PT X (.Compare a [op] [b] pos) (tB t):=by
 intro pins s σ H Q I hw
 refine wpAny_isTrue_Compare1 (thn (h pins s σ H _ I hw) λv s1 h1=>thn h1 λu s2 h2=>thn h2 λc s3 ⟨x,H1,I1,r1,q1⟩=>?_) h1
 obtain ⟨d,rfl,q⟩:=q1
 cases r1
 exact wpAny_truthy_bool ⟨H1,I1,q⟩
theorem ug {e:Expr} {t:TE} (h:PE X e t) (he:∀ whole,isTrue e X.env whole=(do let v <- whole; standAt e.pos; holding [v] (truthy v)):=by intro _; rfl):PT X e (tB t):=by
 intro pins s σ H Q I hw
 refine isTrue_plain (thn (h pins s σ H _ I hw) λv s1 ⟨x,H1,I1,r1,q1⟩=>?_) (he _)
 obtain ⟨d,rfl,q⟩:=q1
 cases r1
 exact wpAny_truthy_bool ⟨H1,I1,q⟩
variable {tA tB':TT} {rest:List Expr}
noncomputable def wb (t u:TT):TT:=λσ H Q=>t σ H λc H1=>if c=true then u σ H1 Q else Q false H1
noncomputable def tOr (t u:TT):TT:=λσ H Q=>t σ H λc H1=>if c=true then Q true H1 else u σ H1 Q
noncomputable def wB (t:TT):TT:=λσ H Q=>t σ H λc H1=>Q (!c) H1
theorem pw_and1 (ha:PT X a tA):PW X (.BoolOp .And [a] pos) tA:=by
 intro wh pins s σ H Q I h
 refine isTrue_and (thn (ha pins s σ H Q I h) λc s1 e=>?_)
 cases c with
 | true=>exact isTrue_and_nil e
 | false=>exact e
theorem pw_or1 (ha:PT X a tA):PW X (.BoolOp .Or [a] pos) tA:=by
 intro wh pins s σ H Q I h
 refine isTrue_or (thn (ha pins s σ H Q I h) λc s1 e=>?_)
 cases c with
 | false=>exact isTrue_or_nil e
 | true=>exact e
theorem pw_and (ha:PT X a tA) (hb:PW X (.BoolOp .And (b :: rest) pos) tB'):PW X (.BoolOp .And (a :: b :: rest) pos) (wb tA tB'):=by
 intro wh pins s σ H Q I h
 refine isTrue_and (thn (ha pins s σ H _ I h) λc s1 ⟨H1,I1,q1⟩=>?_)
 cases c with
 | true=>exact hb wh pins s1 σ H1 Q I1 q1
 | false=>exact ⟨H1,I1,q1⟩
theorem pw_or (ha:PT X a tA) (hb:PW X (.BoolOp .Or (b :: rest) pos) tB'):PW X (.BoolOp .Or (a :: b :: rest) pos) (tOr tA tB'):=by
 intro wh pins s σ H Q I h
 refine isTrue_or (thn (ha pins s σ H _ I h) λc s1 ⟨H1,I1,q1⟩=>?_)
 cases c with
 | true=>exact ⟨H1,I1,q1⟩
 | false=>exact hb wh pins s1 σ H1 Q I1 q1
theorem tI (ha:PT X a tA):PT X (.UnaryOp .Not a pos) (wB tA):=by
 intro pins s σ H Q I h
 exact isTrue_not (ha pins s σ H (λc H1=>Q (!c) H1) I h)
noncomputable def vQ (ta tb:TE):TE:=λσ H Q=>ta σ H λx H1=>∃ c,x=.bl c/\if c=true then tb σ H1 Q else Q (.bl false) H1
noncomputable def uQ (ta:TE):TE:=λσ H Q=>ta σ H λx H1=>∃ c,x=.bl c/\Q (.bl (!c)) H1
theorem tK {op} {t:TE} (h:PE X a t):PE X (.BoolOp op [a] pos) t:=λpins s σ H Q I hw=>BoolOp_one (h pins s σ H Q I hw)
theorem oF (ha:PE X a ta) (hb:PE X (.BoolOp .And (b :: rest) pos) tb):PE X (.BoolOp .And (a :: b :: rest) pos) (vQ ta tb):=by
 intro pins s σ H Q I h
 refine BoolOp_and (thn (ha pins s σ H _ I h) λv s1 ⟨x,H1,I1,r1,q1⟩=>?_)
 obtain ⟨c,rfl,q1⟩:=q1
 cases r1
 refine wpAny_truthy_bool ?_
 cases c with
 | true=>exact hb pins s1 σ H1 Q I1 q1
 | false=>exact ⟨.bl false,H1,I1,rfl,q1⟩
theorem uH (ha:PE X a ta):PE X (.UnaryOp .Not a pos) (uQ ta):=by
 intro pins s σ H Q I h
 refine UnaryOp_ (thn (ha pins s σ H _ I h) λv s1 ⟨x,H1,I1,r1,q1⟩=>?_)
 obtain ⟨c,rfl,q1⟩:=q1
 cases r1
 exact not_of (wpAny_truthy_bool ⟨.bl (!c),H1,I1,rfl,q1⟩)
noncomputable def tIf (t:TT) (ta tb:TE):TE:=λσ H Q=>t σ H λc H1=>if c=true then ta σ H1 Q else tb σ H1 Q
theorem kj {c:Expr} (hc:PT X c tA) (ha:PE X a ta) (hb:PE X b tb):PE X (.IfExp c a b pos) (tIf tA ta tb):=by
 intro pins s σ H Q I h
 refine wpAny_IfExp (thn (hc pins s σ H _ I h) λd s1 ⟨H1,I1,q1⟩=>?_)
 cases d with
 | true=>exact ha pins s1 σ H1 Q I1 q1
 | false=>exact hb pins s1 σ H1 Q I1 q1
end
noncomputable def SqL (K:PySem.W.Frag) (H:Hp) (a:Addr) (xs:List V):Prop:=
 Rd H a (.lst xs) \/
   ∃ (o:Obj) (its:Array Value) (n:Nat),K.lookup a=some o/\o.cls=.type "list" /\ o.dict=none/\o.data=.seq its n/\its.size<=sizeLine/\Vals xs its.toList
noncomputable def SqT (K:PySem.W.Frag) (H:Hp) (a:Addr) (xs:List V):Prop:=
 Rd H a (.tup xs) \/
   ∃ (o:Obj) (its:Array Value) (n:Nat),K.lookup a=some o/\o.cls=.type "tuple" /\ o.data=.seq its n/\its.size<=sizeLine/\Vals xs its.toList
noncomputable def v8:Value->Option V
 | .none=>some .non
 | .bool b=>some (.bl b)
 | .int i _=>some (.int i)
 | .str x _=>some (.str x)
 | .bytes b _=>some (.byt b)
 | .float b _=>some (.flt b)
 | .ref a=>some (.ref a)
 | .type n=>some (.ty n)
 | _=>none
theorem RelV.abs {x:V} {u:Value} (r:RelV x u):v8 u=some x:=by
 cases x with
 | non=>cases r; rfl
 | bl _=>cases r; rfl
 | int _=>obtain ⟨t,rfl⟩:=r; rfl
 | str _=>obtain ⟨t,rfl⟩:=r; rfl
 | byt _=>obtain ⟨t,rfl⟩:=r; rfl
 | flt _=>obtain ⟨t,rfl⟩:=r; rfl
 | ref _=>cases r; rfl
 | ty _=>cases r; rfl
theorem RelV.inj {x y:V} {u:Value} (r:RelV x u) (q:RelV y u):x=y:=Option.some.inj (r.abs.symm.trans q.abs)
theorem Vals.inj:∀ {xs ys:List V} {us:List Value},Vals xs us->Vals ys us->xs=ys
 | _,_,_,.nil,.nil=>rfl
 | _,_,_,.cons r t,.cons r' t'=>by rw [r.inj r',Vals.inj t t']
section
variable {X:Cx} {pins:List (Addr × Obj)} {σ:St} {H:Hp} {s:Shared} {a:Addr} {xs ys:List V}
theorem SqL.of {K:PySem.W.Frag} (h:H a=some (.lst xs)):SqL K H a xs:=.inl (.inl h)
theorem SqT.of {K:PySem.W.Frag} (h:H a=some (.tup xs)):SqT K H a xs:=.inl (.inl h)
theorem Inv.list (I:Inv X pins σ H s) (h:SqL X.K H a xs):∃ its:List Value,Vals xs its/\PlainL s.heap a its.toArray/\xs.length<=sizeLine:=by
 rcases h with h | ⟨o,its,n,hk,hc,hd,hs,hz,r⟩
 · obtain ⟨z,its,n,r,e⟩:=h.ok I.hok
   exact ⟨its,r,⟨_,n,e,rfl,rfl,rfl⟩,z⟩
 · refine ⟨its.toList,r,⟨o,n,I.kIn a o hk,hc,hd,by simpa using hs⟩,?_⟩
   have e:=r.length
   simp only [Array.length_toList] at e
   omega
theorem Inv.tuple (I:Inv X pins σ H s) (h:SqT X.K H a xs):∃ its:List Value,Vals xs its/\IsTup s.heap a its.toArray/\xs.length<=sizeLine:=by
 rcases h with h | ⟨o,its,n,hk,hc,hs,hz,r⟩
 · obtain ⟨z,its,r,p⟩:=h.ok I.hok
   exact ⟨its,r,p,z⟩
 · refine ⟨its.toList,r,⟨o,I.kIn a o hk,hc,n,by simpa using hs⟩,?_⟩
   have e:=r.length
   simp only [Array.length_toList] at e
   omega
theorem Inv.eL (I:Inv X pins σ H s) (h:SqL X.K H a xs) (h':SqL X.K H a ys):xs=ys:=by
 obtain ⟨its,r,⟨o,n,e,_,_,d⟩,_⟩:=I.list h
 obtain ⟨its',r',⟨o',n',e',_,_,d'⟩,_⟩:=I.list h'
 rw [e] at e'; cases e'
 rw [d] at d'
 injection d' with d1 _
 have:its=its':=by simpa using congrArg Array.toList d1
 subst this
 exact r.inj r'
theorem Inv.m6 (I:Inv X pins σ H s) (h:SqT X.K H a xs) (h':SqT X.K H a ys):xs=ys:=by
 obtain ⟨its,r,⟨o,e,_,n,d⟩,_⟩:=I.tuple h
 obtain ⟨its',r',⟨o',e',_,n',d'⟩,_⟩:=I.tuple h'
 rw [e] at e'; cases e'
 rw [d] at d'
 injection d' with d1 _
 have:its=its':=by simpa using congrArg Array.toList d1
 subst this
 exact r.inj r'
end
noncomputable abbrev Cx.hZ (X:Cx) (E:Value->Shared->Prop):Cx:={ X with xe:=E }
noncomputable abbrev Cx.nox (X:Cx):Cx:=X.hZ λ_ _=>False
theorem Cx.Ok.hZ {X:Cx} (ok:X.Ok) (E:Value->Shared->Prop):(X.hZ E).Ok:=
 ⟨ok.mod,ok.kind,ok.glob,ok.blt,ok.above,ok.inj,ok.has,ok.cab,ok.hd,ok.frames,ok.stk,ok.exf,ok.bs,ok.bsz,ok.noex,ok.exfs,ok.gM,ok.frf⟩
theorem Cx.Ok.du {X:Cx} {E:Value->Shared->Prop} (ok:(X.hZ E).Ok):X.Ok:=
 ⟨ok.mod,ok.kind,ok.glob,ok.blt,ok.above,ok.inj,ok.has,ok.cab,ok.hd,ok.frames,ok.stk,ok.exf,ok.bs,ok.bsz,ok.noex,ok.exfs,ok.gM,ok.frf⟩
section
variable {X:Cx} {pins:List (Addr × Obj)} {σ:St} {H:Hp} {s:Shared} {E:Value->Shared->Prop}
theorem Inv.hZ (I:Inv X pins σ H s) (E:Value->Shared->Prop):Inv (X.hZ E) pins σ H s:=⟨I.ok.hZ E,I.os,I.bare,I.base,I.loc,I.cell,I.free,I.freeC,I.pin,I.hok,I.len⟩
theorem Inv.du (I:Inv (X.hZ E) pins σ H s):Inv X pins σ H s:=⟨I.ok.du,I.os,I.bare,I.base,I.loc,I.cell,I.free,I.freeC,I.pin,I.hok,I.len⟩
theorem SP.du {D:Ends} {f:Flow} {s':Shared} (h:SP (X.hZ E) pins D f s'):SP X pins D f s':=by
 cases f with
 | next=>obtain ⟨σ',H',I,q⟩:=h; exact ⟨σ',H',I.du,q⟩
 | brk=>obtain ⟨σ',H',I,q⟩:=h; exact ⟨σ',H',I.du,q⟩
 | cont=>obtain ⟨σ',H',I,q⟩:=h; exact ⟨σ',H',I.du,q⟩
 | ret u=>obtain ⟨v,σ',H',I,r,q⟩:=h; exact ⟨v,σ',H',I.du,r,q⟩
theorem PSs.nox {st:List Stmt} {t:TS} (h:PSs X.nox st t):PSs X st t:=λpins s σ H D I hw=>
 wpAny_mono (h pins s σ H D (I.hZ _) hw) (λ_ _ q=>q.du) λ_ _ z=>False.elim z
end
section
variable {X:Cx} {st:Stmt} {rest:List Stmt} {t u:TS} {e:Expr} {te:TE} {pos:Pos}
noncomputable def vG:TS:=λD σ H=>D.nx σ H
noncomputable def wu (t u:TS):TS:=λD σ H=>t { D with nx:=u D } σ H
theorem qt:PSs X [] vG:=λ_ _ σ H _ I h=>wpAny_execs_nil ⟨σ,H,I,h⟩
theorem pY (h1:PS X st t) (h2:PSs X rest u):PSs X (st :: rest) (wu t u):=by
 intro pins s σ H D I h
 refine wpAny_execs_cons (thn (h1 pins s σ H { D with nx:=u D } I h) λf s1 q=>?_)
 cases f with
 | next=>
   obtain ⟨σ',H',I',q⟩:=q
   exact h2 pins s1 σ' H' D I' q
 | ret v=>exact q
 | brk=>exact q
 | cont=>exact q
theorem Inv.quiet {pins:List (Addr × Obj)} {σ:St} {H:Hp} {s:Shared} (I:Inv X pins σ H s):interactive X.env=false:=by simp [interactive,I.ok.kind]
noncomputable def uS (te:TE):TS:=λD σ H=>te σ H λ_ H1=>D.nx σ H1
theorem jd (he:PE X e te) (hs:swapsWith e none pos.line X.env=pure false:=by rfl):PS X (.Expr e pos) (uS te):=by
 intro pins s σ H D I h
 exact wpAny_Expr_any (thn (he pins s σ H _ I h) λv s1 ⟨x,H1,I1,r1,q1⟩=>⟨σ,H1,I1,q1⟩) I.quiet hs
noncomputable def wx (te:TE):TS:=λD σ H=>te σ H D.rt
theorem pk (he:PE X e te):PS X (.Return (some e) pos) (wx te):=by
 intro pins s σ H D I h
 exact wpAny_Return_some (thn (he pins s σ H _ I h) λv s1 ⟨x,H1,I1,r1,q1⟩=>⟨x,σ,H1,I1,r1,q1⟩)
noncomputable def wo (c:TT) (t u:TS):TS:=λD σ H=>c σ H λb H1=>if b=true then t D σ H1 else u D σ H1
theorem si {c:Expr} {a b:List Stmt} {tc:TT} (hc:PT X c tc) (ha:PSs X a t) (hb:PSs X b u):PS X (.If c a b pos) (wo tc t u):=by
 intro pins s σ H D I h
 refine wpAny_If (thn (hc pins s σ H _ I h) λd s1 ⟨H1,I1,q1⟩=>?_)
 cases d with
 | true=>exact ha pins s1 σ H1 D I1 q1
 | false=>exact hb pins s1 σ H1 D I1 q1
noncomputable def ue:TS:=λ_ _ _=>False
theorem iX {sts:List Stmt}:PSs X sts ue:=λ_ _ _ _ _ _ h=>h.elim
end
noncomputable abbrev TG:=V->St->Hp->(St->Hp->Prop)->Prop
noncomputable abbrev TGs:=List V->St->Hp->(St->Hp->Prop)->Prop
noncomputable def PG (X:Cx) (target:Expr) (t:TG):Prop:=
 ∀ (pins:List (Addr × Obj)) (s:Shared) (σ:St) (H:Hp) (v:V) (u:Value) (Q:St->Hp->Prop),Inv X pins σ H s->RelV v u->t v σ H Q ->
   wpAny (model X.prog X.w) X.A (assign target X.env u) (λ_ s'=>∃ σ' H',Inv X pins σ' H' s'/\Q σ' H') X.xe s
noncomputable def PGs (X:Cx) (ts:List Expr) (t:TGs):Prop:=
 ∀ (pins:List (Addr × Obj)) (s:Shared) (σ:St) (H:Hp) (vs:List V) (us:List Value) (Q:St->Hp->Prop),Inv X pins σ H s->Vals vs us->t vs σ H Q ->
   wpAny (model X.prog X.w) X.A (assignInOrder ((assignEach ts X.env).map (·.2)) us) (λ_ s'=>∃ σ' H',Inv X pins σ' H' s'/\Q σ' H') X.xe s
noncomputable abbrev tF:=V->V->V->Hp->(Hp->Prop)->Prop
noncomputable def uT (X:Cx) (t:tF):Prop:=
 ∀ (pins:List (Addr × Obj)) (s:Shared) (σ:St) (H:Hp) (o i v:V) (ov iv u:Value) (Q:Hp->Prop),Inv X pins σ H s->RelV o ov->RelV i iv->RelV v u->t o i v H Q ->
   wpAny (model X.prog X.w) X.A (setItem ov iv u) (λ_ s'=>∃ H',Inv X pins σ H' s'/\Q H') X.xe s
section
variable {X:Cx} {pos:Pos}
noncomputable def rS (i:Nat):TG:=λv σ H Q=>Q (σ.set i (some v)) H
theorem eU {i:Nat} {x:Str} (hN:X.N.Nodup) (hi:X.N[i]?=some x) (hx:Loc X.env.scope x) (hf:X.fn x=true\/X.env.scope.names.lookup x=some .local:=by first | exact .inl rfl | exact .inr rfl | assumption):PG X (.Name x pos) (rS i):=by
 intro pins s σ H v u Q I r h
 exact wpAny_assign_Name (kf I hN hi hx r (λs' I'=>⟨_,H,I',h⟩) hf)
noncomputable def vY:TGs:=λvs σ H Q=>vs=[]/\Q σ H
noncomputable def uY (t:TG) (u:TGs):TGs:=λvs σ H Q=>∃ v r,vs=v :: r/\t v σ H λσ' H'=>u r σ' H' Q
theorem mh:PGs X [] vY:=by
 intro pins s σ H vs us Q I r h
 obtain ⟨e,h⟩:=h
 subst e
 cases r
 exact assignInOrder_nil ⟨σ,H,I,h⟩
theorem gK {e:Expr} {es:List Expr} {t:TG} {u:TGs} (h1:PG X e t) (h2:PGs X es u)
   (hs:(assignEach (e :: es) X.env).map (·.2)=assign e X.env :: (assignEach es X.env).map (·.2):=by rfl):PGs X (e :: es) (uY t u):=by
 intro pins s σ H vs us Q I r h
 obtain ⟨v,vr,e1,h⟩:=h
 subst e1
 cases r with
 | cons r rr=>
   rw [hs]
   refine assignInOrder_cons (thn (h1 pins s σ H _ _ _ I r h) λ_ s1 ⟨σ1,H1,I1,q1⟩=>?_)
   exact h2 pins s1 σ1 H1 _ _ Q I1 rr q1
noncomputable def v9 (K:PySem.W.Frag) (n:Nat) (t:TGs):TG:=λv σ H Q=>∃ a xs,v=.ref a/\SqT K H a xs/\xs.length=n/\t xs σ H Q
theorem pe {es:List Expr} {k:Nat} {t:TGs} {n:Nat} (hc:X.calm=true) (h:PGs X es t)
   (hn:(assignEach es X.env).length=n:=by rfl) (hst:(assignEach es X.env).findIdx? (·.1)=none:=by rfl):PG X (.Tuple es k pos) (v9 X.K n t):=by
 intro pins s σ H v u Q I r hw
 obtain ⟨a,xs,e1,hq,hl,hw⟩:=hw
 subst e1
 cases r
 obtain ⟨its,rv,ht,hz⟩:=I.tuple hq
 refine assign_Tuple_tuple (I.ok.hd hc) ht (by simp [hn,<- hl,rv.length]) hst λh' hx=>?_
 have I1:Inv X pins σ H { s with heap:=h' }:=I.kept (t':=s.toks) λb o e=>hx b o (Nat.ne_of_lt (Heap.lt_size e)) e
 exact h pins _ σ H xs _ Q I1 (by simpa using rv) hw
noncomputable def wg (to ti:TE) (t:tF):TG:=λv σ H Q=>to σ H λo H1=>ti σ H1 λi H2=>t o i v H2 λH3=>Q σ H3
theorem sH {o i:Expr} {to ti:TE} {t:tF} (ho:PE X o to) (hi:PE X i ti) (hs:uT X t)
   (ha:∀ v,assign (.Subscript o i pos) X.env v=(do
     let ov <- holding [v] (eval o X.env)
     let iv <- holding [v,ov] (eval i X.env)
     standAt pos
     holding [v,ov,iv] (setItem ov iv v)
     release [v,ov,iv] []):=by intro _; rfl):PG X (.Subscript o i pos) (wg to ti t):=by
 intro pins s σ H v u Q I r h
 rw [ha]
 refine wpAny_bind (wpAny_holding (thn (ho pins s σ H _ I h) λov s1 ⟨x,H1,I1,r1,q1⟩=>?_))
 refine wpAny_bind (wpAny_holding (thn (hi pins s1 σ H1 _ I1 q1) λiv s2 ⟨y,H2,I2,r2,q2⟩=>?_))
 refine wpAny_bind (wpAny_standAt (wpAny_bind (wpAny_holding (thn (hs pins s2 σ H2 x y v ov iv u _ I2 r1 r2 r q2) λ_ s3 ⟨H3,I3,q3⟩=>?_))))
 exact wpAny_release ⟨σ,H3,I3,q3⟩
noncomputable def sA (te:TE) (g:TG):TS:=λD σ H=>te σ H λx H1=>g x σ H1 D.nx
theorem oX {tg e:Expr} {te:TE} {g:TG} (he:PE X e te) (hg:PG X tg g) (hs:swapsWithSole [tg] e pos.line X.env=pure false:=by rfl) (hw:swappedStores [tg] e X.env=pure none:=by rfl)
   (h1:(assignEach [tg] X.env).map (·.2)=[assign tg X.env]:=by rfl):PS X (.Assign [tg] e pos) (sA te g):=by
 intro pins s σ H D I h
 refine wpAny_Assign_stores (thn (he pins s σ H _ I h) λv s1 ⟨x,H1,I1,r1,q1⟩=>?_) hs hw
 rw [h1]
 exact thn (hg pins s1 σ H1 x v _ I1 r1 q1) λ_ s2 q=>q
theorem sT {i:Nat} {x:Str} {e:Expr} {te:TE} {pos':Pos} (hN:X.N.Nodup) (hi:X.N[i]?=some x) (hx:Loc X.env.scope x) (he:PE X e te) (hs:swapsWith e (some (.Name x pos')) pos.line X.env=pure false:=by rfl) (hf:X.fn x=true\/X.env.scope.names.lookup x=some .local:=by first | exact .inl rfl | exact .inr rfl | assumption) :
   PS X (.Assign [.Name x pos'] e pos) (sA te (rS i)):=by
 intro pins s σ H D I h
 refine wpAny_Assign_Name (thn (he pins s σ H _ I h) λv s1 ⟨y,H1,I1,r1,q1⟩=>?_) hs
 exact kf I1 hN hi hx r1 (λs2 I2=>⟨_,H1,I2,q1⟩) hf
end
section
variable {X:Cx} {pos:Pos}
noncomputable def sW (c:TT) (tb:TS):TS:=λD σ H=>∃ W:Nat->St->Hp->Prop,(∃ m,W m σ H)/\∀ m σ H,W m σ H ->
 c σ H λb H1=>if b=true then ∃ N:St->Hp->Prop,(∀ σ' H',N σ' H'->∃ m',m' < m/\W m' σ' H')/\tb { D with nx:=N,ct:=N,bk:=D.nx } σ H1 else D.nx σ H1
theorem oV {c:Expr} {body:List Stmt} {tc:TT} {tb:TS} (hp:PassesOwn (model X.prog X.w) X.A X.env X.xe) (hc:PT X c tc) (hb:PSs X body tb):PS X (.While c body [] pos) (sW tc tb):=by
 intro pins s σ H D I h
 obtain ⟨W,⟨m0,w0⟩,turn⟩:=h
 refine wpAny_While (codeAny_whileLoop (λn s'=>∃ σ' H',Inv X pins σ' H' s'/\W n σ' H') ?_ m0 ⟨σ,H,I,w0⟩)
 rintro n s1 ⟨σ1,H1,I1,w1⟩
 refine wpAny_passesOwn hp (thn (hc pins s1 σ1 H1 _ I1 (turn n σ1 H1 w1)) λb s2 ⟨H2,I2,q2⟩=>?_)
 cases b with
 | true=>
   obtain ⟨N,hN,q2⟩:=q2
   rw [if_pos rfl]
   refine wpAny_passesOwn hp (thn (hb pins s2 σ1 H2 _ I2 q2) λf s3 q3=>?_)
   cases f with
   | next=>
     obtain ⟨σ3,H3,I3,n3⟩:=q3
     obtain ⟨m',hm,w3⟩:=hN σ3 H3 n3
     exact ⟨m',hm,σ3,H3,I3,w3⟩
   | cont=>
     obtain ⟨σ3,H3,I3,n3⟩:=q3
     obtain ⟨m',hm,w3⟩:=hN σ3 H3 n3
     exact ⟨m',hm,σ3,H3,I3,w3⟩
   | brk=>exact q3
   | ret v=>exact q3
 | false=>
   rw [if_neg Bool.false_ne_true]
   exact wpAny_execs_nil ⟨σ1,H2,I2,q2⟩
end
structure It where
 go:Nat->Hp->Prop
 yld:Nat->Hp->V->Hp->Prop
 stop:Nat->Hp->Prop
noncomputable def hU (X:Cx) (pins:List (Addr × Obj)) (H:Hp) (b:Addr):Prop:=
 H b=none/\b ≠ X.env.locals/\b ∉ X.fs/\(b ∈ X.ex\/X.s₀.heap.objs.size<=b)/\(∀ x c,X.env.cells.lookup x=some c->c ≠ b)/\∀ p ∈ X.pn++pins,p.1 ≠ b
theorem Inv.j8 {X:Cx} {pins:List (Addr × Obj)} {σ:St} {H H':Hp} {s:Shared} {b:Addr} (I:Inv X pins σ H s) (hb:s.heap.objs.size<=b) (hn:H' b=none):hU X pins H' b:=by
 refine ⟨hn,Nat.ne_of_gt (Nat.lt_of_lt_of_le I.lt hb),I.wA hb,.inr (Nat.le_trans I.sz hb),λx c e z=>?_,λp hp z=>?_⟩
 · obtain ⟨v,q⟩:=I.cell x c e
   exact absurd (Nat.lt_of_lt_of_le q.lt (by rw [z]; exact hb)) (Nat.lt_irrefl _)
 · exact absurd (Nat.lt_of_lt_of_le (Heap.lt_size (I.pin p hp).1) (by rw [z]; exact hb)) (Nat.lt_irrefl _)
noncomputable def wd (X:Cx):Prop:=∃ h o u vs,X.A.handled=some (.ref h)/\X.H₀ h=some (.frz o u)/\o.data=.fields vs/\vs[2]?=some .none
noncomputable def Ck (kd:Bool) (X:Cx):Prop:=X.calm=true\/(kd=true/\wd X)
theorem Ck.calm {X:Cx} (h:Ck false X):X.calm=true:=h.resolve_right λz=>nomatch z.1
structure Turn (P:Program) (w:World) (K:PySem.W.Frag) (kd:Bool) (tg:Expr) (J:It) (fp:List Addr) (it:Addr) (tn:Nat->Heap->Prop):Prop where
 mem:it ∈ fp
 obj:∀ i h,tn i h->∀ b ∈ fp,∃ o,h.get? b=some o/\∀ v,o.data ≠ .cell v
 keep:∀ i h h',tn i h->(∀ b ∈ fp,∀ o,h.get? b=some o->h'.get? b=some o)->tn i h'
 item:∀ (X:Cx),X.prog=P->X.w=w->X.K=K->Ck kd X->∀ (i:Nat) (pins:List (Addr × Obj)) (s:Shared) (σ:St) (H:Hp) (E:Value->Shared->Prop),Inv X pins σ H s->(∀ b ∈ fp,hU X pins H b)->tn i s.heap->J.go i H ->
   wpAny (model P w) X.A (pyNext (.ref it)) (λr s1=>∃ u,r=some u /\
     wpAny (model P w) X.A (letOwnedTupleGo tg (.ref it) u) (λ_ s2=>∃ x H',Inv X pins σ H' s2/\RelV x u/\J.yld i H x H'/\tn (i + 1) s2.heap/\∀ b ∈ fp,H' b=none) E s1) E s
 done:∀ (X:Cx),X.prog=P->X.w=w->X.K=K->Ck kd X->∀ (i:Nat) (pins:List (Addr × Obj)) (s:Shared) (σ:St) (H:Hp) (E:Value->Shared->Prop),Inv X pins σ H s->(∀ b ∈ fp,hU X pins H b)->tn i s.heap->J.stop i H ->
   wpAny (model P w) X.A (pyNext (.ref it)) (λr s1=>r=none/\Inv X pins σ H s1) E s
 self:∀ (A:Around) (i:Nat) (s:Shared) (Q:Value->Shared->Prop) (E:Value->Shared->Prop),tn i s.heap->Q (.ref it) s->wpAny (model P w) A (pyIter (.ref it)) Q E s
noncomputable abbrev TI:=St->Hp->(It->Hp->Prop)->Prop
noncomputable def PIE (X:Cx) (pins:List (Addr × Obj)) (σ:St) (tg:Expr) (R:It->Hp->Prop) (itv:Value) (s2:Shared):Prop:=
 ∃ (kd:Bool) (it:Addr) (fp:List Addr) (tn:Nat->Heap->Prop) (J:It) (H':Hp),itv=.ref it/\Inv X pins σ H' s2/\Ck kd X/\Turn X.prog X.w X.K kd tg J fp it tn/\tn 0 s2.heap/\(∀ b ∈ fp,hU X pins H' b)/\R J H'
noncomputable def PI (X:Cx) (tg iter:Expr) (wi:TI):Prop:=
 ∀ (pins:List (Addr × Obj)) (s:Shared) (σ:St) (H:Hp) (R:It->Hp->Prop),Inv X pins σ H s->wi σ H R ->
   wpAny (model X.prog X.w) X.A (eval iter X.env) (λv s1=>wpAny (model X.prog X.w) X.A (pyIter v) (PIE X pins σ tg R) X.xe s1) X.xe s
theorem mR {M:Model} {A:Around} {E:Value->Shared->Prop} {s:Shared} {tg:Expr} {it:Addr} {u:Value} {o:Obj} {n:String} {vs:Array Value} {Q:Unit->Shared->Prop} (ho:s.heap.get? it=some o) (hc:o.cls=.type n) (hd:o.data=.fields vs)
   (hn:["enumerate","zip","dict_itemiterator","dict_reverseitemiterator","odict_iterator","itertools.zip_longest","itertools.pairwise"].contains n=false) (hQ:Q () s):wpAny M A (letOwnedTupleGo tg (.ref it) u) Q E s:=by
 unfold letOwnedTupleGo
 cases tg <;> first
   | exact wpAny_pure hQ
   | (cases u <;> first
       | exact wpAny_pure hQ
       | (refine wpAny_bind (wpAny_load ho ?_)
          rw [hc,hd]
          show wpAny M A (if (["enumerate","zip","dict_itemiterator","dict_reverseitemiterator","odict_iterator","itertools.zip_longest","itertools.pairwise"].contains n && vs[0]? == some (rawInt _))=true then _ else _) Q E s
          rw [if_neg (by intro h; rw [hn,Bool.false_and] at h; cases h)]
          exact wpAny_pure hQ))
noncomputable def Itl (K:PySem.W.Frag) (a:Addr):It:=
 ⟨λi H=>∃ xs x,SqL K H a xs/\xs[i]?=some x,λi H x H'=>H'=H/\∀ xs,SqL K H a xs->xs[i]?=some x,λi H=>∃ xs,SqL K H a xs/\xs.length<=i⟩
noncomputable def Itt (K:PySem.W.Frag) (a:Addr):It:=
 ⟨λi H=>∃ xs x,SqT K H a xs/\xs[i]?=some x,λi H x H'=>H'=H/\∀ xs,SqT K H a xs->xs[i]?=some x,λi H=>∃ xs,SqT K H a xs/\xs.length<=i⟩
noncomputable def Itr (lo:Int) (n:Nat):It:=⟨λi _=>i < n,λi H x H'=>H'=H/\x=.int (lo + i),λi _=>n<=i⟩
theorem nv {P:Program} {w:World} {K:PySem.W.Frag} {tg:Expr} (a it:Addr):Turn P w K false tg (Itl K a) [it] it (λi h=>h.IsListIter it a i) where
 mem:=by simp
 obj:=λi h st b hb=>by
   have e:b=it:=by simpa using hb
   subst e
   obtain ⟨o,e,c,d⟩:=st
   exact ⟨o,e,λv z=>by rw [d] at z; cases z⟩
 keep:=λi h h' st k=>st.at λo e=>k it (by simp) o e
 item:=by
   intro X hP hw hK hc i pins s σ H E I hf st hg
   subst hP hw hK
   obtain ⟨xs,x,hq,hx⟩:=hg
   obtain ⟨its,rv,p,hz⟩:=I.list hq
   obtain ⟨u,hu,ru⟩:=rv.get hx
   obtain ⟨f0,f1,f2,f3,f4,f5⟩:=hf it (by simp)
   refine wpAny_pyNext_list_item st p.isList (x:=u) (by simpa using hu) λh' st' sb=>?_
   have I1:Inv X pins σ H { s with heap:=h' }:=I.turned (t':=s.toks) (λb o hb e=>(sb.2 b hb).trans e) f0 f1 f3 f4 f5
   obtain ⟨o,e,c,d⟩:=id st'
   exact ⟨u,rfl,mR (s:={ s with heap:=h' }) e c d (by decide) ⟨x,H,I1,ru,⟨rfl,λys hy=>by rw [I.eL hy hq]; exact hx⟩,st',λb hb=>(hf b hb).1⟩⟩
 done:=by
   intro X hP hw hK hc i pins s σ H E I hf st hg
   subst hP hw hK
   obtain ⟨xs,hq,hx⟩:=hg
   obtain ⟨its,rv,p,hz⟩:=I.list hq
   obtain ⟨f0,f1,f2,f3,f4,f5⟩:=hf it (by simp)
   have hl:=rv.length
   exact wpAny_pyNext_list_end (I.ok.hd hc.calm) st p.isList (by simp; omega) λh' eb=>⟨rfl,I.turned (t':=s.toks) (λb o hb e=>eb b o hb e) f0 f1 f3 f4 f5⟩
 self:=λ_ _ _ _ _ st h=>wpAny_pyIter_listiter st h
theorem kK {P:Program} {w:World} {K:PySem.W.Frag} {tg:Expr} (a it:Addr):Turn P w K false tg (Itt K a) [it] it (λi h=>h.IsTupleIter it a i) where
 mem:=by simp
 obj:=λi h st b hb=>by
   have e:b=it:=by simpa using hb
   subst e
   obtain ⟨o,e,c,d⟩:=st
   exact ⟨o,e,λv z=>by rw [d] at z; cases z⟩
 keep:=λi h h' st k=>st.at λo e=>k it (by simp) o e
 item:=by
   intro X hP hw hK hc i pins s σ H E I hf st hg
   subst hP hw hK
   obtain ⟨xs,x,hq,hx⟩:=hg
   obtain ⟨its,rv,p,hz⟩:=I.tuple hq
   obtain ⟨u,hu,ru⟩:=rv.get hx
   obtain ⟨f0,f1,f2,f3,f4,f5⟩:=hf it (by simp)
   refine wpAny_pyNext_tuple_item st (show s.heap.IsTuple a its.toArray from p) (x:=u) (by simpa using hu) λh' st' sb=>?_
   have I1:Inv X pins σ H { s with heap:=h' }:=I.turned (t':=s.toks) (λb o hb e=>(sb.2 b hb).trans e) f0 f1 f3 f4 f5
   obtain ⟨o,e,c,d⟩:=id st'
   exact ⟨u,rfl,mR (s:={ s with heap:=h' }) e c d (by decide) ⟨x,H,I1,ru,⟨rfl,λys hy=>by rw [I.m6 hy hq]; exact hx⟩,st',λb hb=>(hf b hb).1⟩⟩
 done:=by
   intro X hP hw hK hc i pins s σ H E I hf st hg
   subst hP hw hK
   obtain ⟨xs,hq,hx⟩:=hg
   obtain ⟨its,rv,p,hz⟩:=I.tuple hq
   obtain ⟨f0,f1,f2,f3,f4,f5⟩:=hf it (by simp)
   have hl:=rv.length
   exact wpAny_pyNext_tuple_end (I.ok.hd hc.calm) st (show s.heap.IsTuple a its.toArray from p) (by simp; omega) λh' eb=>⟨rfl,I.turned (t':=s.toks) (λb o hb e=>eb b o hb e) f0 f1 f3 f4 f5⟩
 self:=λ_ _ _ _ _ st h=>wpAny_pyIter_tupleiter st h
theorem lj {P:Program} {w:World} {K:PySem.W.Frag} {tg:Expr} (it:Addr) (lo:Int) (n:Nat):Turn P w K true tg (Itr lo n) [it] it (λi h=>IsRangeIter h it (lo + (i:Nat) * 1) ((n:Int) - (i:Nat)) 1) where
 mem:=by simp
 obj:=λi h st b hb=>by
   have e:b=it:=by simpa using hb
   subst e
   exact ⟨_,st,λv z=>by
     have z':Data.fields _=Data.cell v:=z
     cases z'⟩
 keep:=λi h h' st k=>k it (by simp) _ st
 item:=by
   intro X hP hw hK hc i pins s σ H E I hf st hg
   subst hP hw hK
   obtain ⟨f0,f1,f2,f3,f4,f5⟩:=hf it (by simp)
   refine wpAny_pyNext_range_item st (by have:i < n:=hg; omega) λh' st0 sb=>?_
   have st':IsRangeIter h' it (lo + ((i + 1:Nat):Int) * 1) ((n:Int) - ((i + 1:Nat):Int)) 1:=by
     have e1:lo + ((i + 1:Nat):Int) * 1=lo + (i:Nat) * 1 + 1:=by omega
     have e2:(n:Int) - ((i + 1:Nat):Int)=(n:Int) - (i:Nat) - 1:=by omega
     rw [e1,e2]; exact st0
   have I1:Inv X pins σ H { s with heap:=h',toks:=s.toks + 1 }:=I.turned (λb o hb e=>(sb.2 b hb).trans e) f0 f1 f3 f4 f5
   refine ⟨_,rfl,mR (s:={ s with heap:=h',toks:=s.toks + 1 }) (n:="range_iterator") st' rfl rfl (by decide) ⟨.int (lo + i),H,I1,⟨s.toks,?_⟩,⟨rfl,rfl⟩,st',λb hb=>(hf b hb).1⟩⟩
   rw [Int.mul_one]
 done:=by
   intro X hP hw hK hc i pins s σ H E I hf st hg
   subst hP hw hK
   obtain ⟨f0,f1,f2,f3,f4,f5⟩:=hf it (by simp)
   rcases hc with hc | ⟨_,q,o,u,vs,e1,e2,e3,e4⟩
   · exact wpAny_pyNext_range_end (I.ok.hd hc) st (by have:n<=i:=hg; omega) λh' eb=>⟨rfl,I.turned (t':=s.toks) (λb o hb e=>eb b o hb e) f0 f1 f3 f4 f5⟩
   · have e5:=I.hok q _ (I.base.frzs q o u e2)
     exact Hx.kN e1 e5.1 e3 e4 st (by have:n<=i:=hg; omega) λh' eb=>⟨rfl,I.turned (t':=s.toks) (λb o hb e=>eb b o hb e) f0 f1 f3 f4 f5⟩
 self:=λ_ _ _ _ _ st h=>wpAny_pyIter_rangeiter st h
section
variable {X:Cx} {tg:Expr}
noncomputable def vf (K:PySem.W.Frag) (tl:TE):TI:=λσ H R=>tl σ H λx H1=>∃ a,x=.ref a/\(∃ xs,SqL K H1 a xs)/\R (Itl K a) H1
noncomputable def vX (K:PySem.W.Frag) (tl:TE):TI:=λσ H R=>tl σ H λx H1=>∃ a,x=.ref a/\(∃ xs,SqT K H1 a xs)/\R (Itt K a) H1
theorem qy {l:Expr} {tl:TE} (hc:X.calm=true) (hl:PE X l tl):PI X tg l (vf X.K tl):=by
 intro pins s σ H R I h
 refine thn (hl pins s σ H _ I h) λv s1 ⟨x,H1,I1,r1,q1⟩=>?_
 obtain ⟨a,e,⟨xs,hq⟩,q⟩:=q1
 subst e
 cases r1
 obtain ⟨its,rv,p,hz⟩:=I1.list hq
 refine wpAny_pyIter_list p.isList ?_
 refine ⟨false,s1.heap.objs.size,[s1.heap.objs.size],_,_,H1,rfl,I1.kept (t':=s1.toks) λb o e=>Heap.get?_push_of_some _ e,.inl hc,nv a _,⟨_,Heap.get?_push_size _ rfl,rfl,rfl⟩,λb hb=>?_,q⟩
 have e:b=s1.heap.objs.size:=by simpa using hb
 subst e
 exact I1.j8 (Nat.le_refl _) (I1.hok.fresh (Nat.le_refl _))
theorem sY {l:Expr} {tl:TE} (hc:X.calm=true) (hl:PE X l tl):PI X tg l (vX X.K tl):=by
 intro pins s σ H R I h
 refine thn (hl pins s σ H _ I h) λv s1 ⟨x,H1,I1,r1,q1⟩=>?_
 obtain ⟨a,e,⟨xs,hq⟩,q⟩:=q1
 subst e
 cases r1
 obtain ⟨its,rv,p,hz⟩:=I1.tuple hq
 refine wpAny_pyIter_tuple (show s1.heap.IsTuple a its.toArray from p) ?_
 refine ⟨false,s1.heap.objs.size,[s1.heap.objs.size],_,_,H1,rfl,I1.kept (t':=s1.toks) λb o e=>Heap.get?_push_of_some _ e,.inl hc,kK a _,⟨_,Heap.get?_push_size _ rfl,rfl,rfl⟩,λb hb=>?_,q⟩
 have e:b=s1.heap.objs.size:=by simpa using hb
 subst e
 exact I1.j8 (Nat.le_refl _) (I1.hok.fresh (Nat.le_refl _))
theorem kG {pins:List (Addr × Obj)} {σ:St} {H:Hp} {s:Shared} {R:It->Hp->Prop} {E:Value->Shared->Prop} {lo hi:Int} {t u v:Tok} {tk:Nat} (hc:Ck true X) (I:Inv X pins σ H s) (h1:-(2 ^ 62)<=lo) (h2:lo < 2 ^ 62) (h3:-(2 ^ 62)<=hi) (h4:hi < 2 ^ 62)
   (q:R (Itr lo (hi - lo).toNat) H):wpAny (model X.prog X.w) X.A (pyIter (.ref s.heap.objs.size)) (PIE X pins σ tg R) E { s with heap:=s.heap.push { cls:=.type "range",data:=.fields #[.int lo t,.int hi u,.int 1 v] },toks:=tk }:=by
 refine wpAny_pyIter_range (IsRange.new ..) (small_one h1 h2 h3 h4) ?_
 have I1:Inv X pins σ H { s with heap:=s.heap.push { cls:=.type "range",data:=.fields #[.int lo t,.int hi u,.int 1 v] },toks:=tk }:=I.kept λb o e=>Heap.get?_push_of_some _ e
 refine ⟨true,(s.heap.push { cls:=.type "range",data:=.fields #[.int lo t,.int hi u,.int 1 v] }).objs.size,[(s.heap.push { cls:=.type "range",data:=.fields #[.int lo t,.int hi u,.int 1 v] }).objs.size],_,_,H,rfl,
   I1.kept (t':=tk) λb o e=>Heap.get?_push_of_some _ e,hc,lj _ lo (hi - lo).toNat,?_,λb hb=>?_,q⟩
 · have e1:lo + ((0:Nat):Int) * 1=lo:=by simp
   have e2:(((hi - lo).toNat:Nat):Int) - ((0:Nat):Int)=Builtin.Range.rangeSize lo hi 1:=by rw [rangeSize_one]; split <;> omega
   show IsRangeIter _ _ (lo + ((0:Nat):Int) * 1) ((((hi - lo).toNat:Nat):Int) - ((0:Nat):Int)) 1
   rw [e1,e2]
   exact Heap.get?_push_size _ rfl
 · have e:b=(s.heap.push { cls:=.type "range",data:=.fields #[.int lo t,.int hi u,.int 1 v] }).objs.size:=by simpa using hb
   subst e
   exact I1.j8 (Nat.le_refl _) (I1.hok.fresh (Nat.le_refl _))
noncomputable def uV (ta:TA):TI:=λσ H R=>ta σ H λvs H1=>∃ j:Int,vs=[.int j]/\-(2 ^ 62)<=j/\j < 2 ^ 62/\R (Itr 0 j.toNat) H1
noncomputable def vq (ta:TA):TI:=λσ H R=>ta σ H λvs H1=>∃ i j:Int,vs=[.int i,.int j]/\(-(2 ^ 62)<=i/\i < 2 ^ 62/\-(2 ^ 62)<=j/\j < 2 ^ 62)/\R (Itr i (j - i).toNat) H1
theorem nV {a:Expr} {ta:TA} {p pos:Pos} (hc:Ck true X) (hg:Gl X "range") (hm:X.mg "range" = none) (ha:PA X [a] ta) (hs:starEach [a] X.env=[(false,eval a X.env)]:=by rfl):PI X tg (.Call (.Name "range" p) [a] [] pos) (uV ta):=by
 intro pins s σ H R I h
 refine Call_ (ee I hg hm boot_range (PyProof.Rows.callWith_type1 (thn (ha pos pins s σ H _ I h) λus s1 ⟨vs,H1,I1,r1,q1⟩=>?_) hs rfl))
 obtain ⟨j,e,q1,q2,q⟩:=q1
 subst e
 cases r1 with
 | cons r rr=>
   cases rr
   obtain ⟨t,rfl⟩:=r
   exact call_range_1 (kG hc I1 (by omega) (by omega) q1 q2 (by simpa using q))
theorem nY {a b:Expr} {ta:TA} {p pos:Pos} (hc:Ck true X) (hg:Gl X "range") (hm:X.mg "range" = none) (ha:PA X [a,b] ta) (hs:starEach [a,b] X.env=[(false,eval a X.env),(false,eval b X.env)]:=by rfl) (hs2:starEach [b] X.env=[(false,eval b X.env)]:=by rfl) :
   PI X tg (.Call (.Name "range" p) [a,b] [] pos) (vq ta):=by
 intro pins s σ H R I h
 refine Call_ (ee I hg hm boot_range (PyProof.Rows.callWith_type1 (thn (ha pos pins s σ H _ I h) λus s1 ⟨vs,H1,I1,r1,q1⟩=>?_) (by rw [hs,hs2]) (by rw [hs2]; rfl)))
 obtain ⟨i,j,e,⟨q1,q2,q3,q4⟩,q⟩:=q1
 subst e
 cases r1 with
 | cons r rr=>
   cases rr with
   | cons r' rr=>
     cases rr
     obtain ⟨t,rfl⟩:=r
     obtain ⟨t',rfl⟩:=r'
     exact call_range_2 (kG hc I1 q1 q2 q3 q4 q)
noncomputable def vZ (wi:TI) (g:TG) (tb:TS):TS:=λD σ H=>wi σ H λJ H1=>∃ W:Nat->Nat->St->Hp->Prop,(∃ m,W 0 m σ H1)/\∀ i m σ H,W i m σ H ->
 (J.stop i H/\D.nx σ H)\/(J.go i H/\∃ N:St->Hp->Prop,(∀ σ' H',N σ' H'->∃ m',m' < m/\W (i + 1) m' σ' H')/\∀ x H',J.yld i H x H'->g x σ H' λσ2 H2=>tb { D with nx:=N,ct:=N,bk:=D.nx } σ2 H2)
noncomputable def eE (fp:List Addr) (h:Heap):List (Addr × Obj):=fp.filterMap λb=>(h.get? b).map λo=>(b,o)
theorem br {fp:List Addr} {h:Heap} {b:Addr} {o:Obj} (hb:b ∈ fp) (e:h.get? b=some o):(b,o) ∈ eE fp h:=List.mem_filterMap.mpr ⟨b,hb,by rw [e]; rfl⟩
theorem nK {fp:List Addr} {h:Heap} {p:Addr × Obj} (hp:p ∈ eE fp h):p.1 ∈ fp/\h.get? p.1=some p.2:=by
 obtain ⟨b,hb,e⟩:=List.mem_filterMap.mp hp
 cases q:h.get? b with
 | none=>rw [q] at e; cases e
 | some o=>
   rw [q] at e
   have e':(b,o)=p:=Option.some.inj e
   subst e'
   exact ⟨hb,q⟩
theorem Inv.pinned {pins:List (Addr × Obj)} {σ:St} {H:Hp} {s:Shared} {fp:List Addr} (I:Inv X pins σ H s) (hf:∀ b ∈ fp,hU X pins H b) (ho:∀ b ∈ fp,∃ o,s.heap.get? b=some o/\∀ v,o.data ≠ .cell v):Inv X (pins++eE fp s.heap) σ H s:=
 I.mO λp hp=>(List.mem_append.mp hp).elim (λz=>I.pin p (List.mem_append_right _ z)) λz=>by
   obtain ⟨hb,e⟩:=nK z
   obtain ⟨f0,f1,f2,_⟩:=hf p.1 hb
   obtain ⟨o,e',d⟩:=ho p.1 hb
   rw [e] at e'; cases e'
   exact ⟨e,f0,f1,f2,d⟩
theorem Inv.cA {pins pl:List (Addr × Obj)} {σ:St} {H:Hp} {s:Shared} (I:Inv X (pins++pl) σ H s):Inv X pins σ H s:=I.mO λp hp=>I.pin p (List.mem_append_right _ (List.mem_append_left _ hp))
theorem uj {iter:Expr} {body:List Stmt} {wi:TI} {g:TG} {tb:TS} {pos:Pos} (hp:PassesOwn (model X.prog X.w) X.A X.env X.xe) (hi:PI X tg iter wi) (hg:PG X tg g) (hb:PSs X body tb)
   (hs:∀ x,foldedSetIterable iter X.env x=pure x:=by intro _; rfl):PS X (.For tg iter body [] pos) (vZ wi g tb):=by
 intro pins s σ H D I h
 refine wpAny_For (thn (hi pins s σ H _ I h) λv s1 h1=>thn h1 λitv s2 h2=>?_) hs
 obtain ⟨kd,it,fp,tn,J,H2,e,I2,hc,T,st2,f2,W,⟨m0,w0⟩,turn⟩:=h2
 subst e
 have stat:∀ {H':Hp},(∀ b ∈ fp,H' b=none)->∀ b ∈ fp,hU X pins H' b:=λhn b hb=>⟨hn b hb,(f2 b hb).2⟩
 refine codeAny_forLoop_any (λn s'=>∃ i σ' H',Inv X pins σ' H' s'/\tn i s'.heap/\(∀ b ∈ fp,H' b=none)/\W i n σ' H') ?_ m0 ⟨0,σ,H2,I2,st2,λb hb=>(f2 b hb).1,w0⟩
 rintro n s3 ⟨i,σ3,H3,I3,st3,fr3,w3⟩
 rcases turn i n σ3 H3 w3 with ⟨stop,qn⟩ | ⟨go,N,hN,step⟩
 · refine wpAny_passesOwn hp (thn (T.done X rfl rfl rfl hc i pins s3 σ3 H3 X.xe I3 (stat fr3) st3 stop) λr s4 ⟨hr,I4⟩=>?_)
   subst hr
   exact wpAny_execs_nil ⟨σ3,H3,I4,qn⟩
 · refine wpAny_passesOwn hp (thn (T.item X rfl rfl rfl hc i pins s3 σ3 H3 X.xe I3 (stat fr3) st3 go) λr s4 ⟨u,hr,h4⟩=>?_)
   subst hr
   refine wpAny_passesOwn hp (thn h4 λ_ s5 ⟨x,H5,I5,r5,y5,st5,fr5⟩=>?_)
   have I5':=I5.pinned (stat fr5) (T.obj _ _ st5)
   refine wpAny_passesOwn hp (thn (hg _ s5 σ3 H5 x u _ I5' r5 (step x H5 y5)) λ_ s6 ⟨σ6,H6,I6,q6⟩=>?_)
   refine wpAny_passesOwn hp (thn (hb _ s6 σ6 H6 _ I6 q6) λf s7 q7=>?_)
   have again:∀ {σ7:St} {H7:Hp},Inv X (pins++eE fp s5.heap) σ7 H7 s7->N σ7 H7->∃ m,m < n/\∃ i σ' H',Inv X pins σ' H' s7/\tn i s7.heap/\(∀ b ∈ fp,H' b=none)/\W i m σ' H':=λ{σ7 H7} I7 n7=>by
     obtain ⟨m',hm,w7⟩:=hN σ7 H7 n7
     refine ⟨m',hm,i + 1,σ7,H7,I7.cA,T.keep _ _ _ st5 λb hb o e=>(I7.pin (b,o) (List.mem_append_right _ (List.mem_append_right _ (br hb e)))).1,λb hb=>?_,w7⟩
     obtain ⟨o,e,d⟩:=T.obj _ _ st5 b hb
     exact (I7.pin (b,o) (List.mem_append_right _ (List.mem_append_right _ (br hb e)))).2.1
   cases f with
   | next=>obtain ⟨σ7,H7,I7,n7⟩:=q7; exact again I7 n7
   | cont=>obtain ⟨σ7,H7,I7,n7⟩:=q7; exact again I7 n7
   | brk=>obtain ⟨σ7,H7,I7,q7⟩:=q7; exact ⟨σ7,H7,I7.cA,q7⟩
   | ret v=>obtain ⟨x7,σ7,H7,I7,r7,q7⟩:=q7; exact ⟨x7,σ7,H7,I7.cA,r7,q7⟩
end
noncomputable abbrev R2:=V->V->Hp->VK->Prop
noncomputable def OpR (X:Cx) (f:Value->Value->Sem Value) (r:R2):Prop:=
 ∀ (pins:List (Addr × Obj)) (s:Shared) (σ:St) (H:Hp) (x y:V) (v u:Value) (Q:VK),Inv X pins σ H s->RelV x v->RelV y u->r x y H Q ->
   wpAny (model X.prog X.w) X.A (f v u) (EP X pins σ Q) X.xe s
noncomputable def UnR (X:Cx) (f:Value->Sem Value) (r:V->Hp->VK->Prop):Prop:=
 ∀ (pins:List (Addr × Obj)) (s:Shared) (σ:St) (H:Hp) (x:V) (v:Value) (Q:VK),Inv X pins σ H s->RelV x v->r x H Q ->
   wpAny (model X.prog X.w) X.A (f v) (EP X pins σ Q) X.xe s
noncomputable def cF (X:Cx) (f:Value) (r:List V->Hp->VK->Prop):Prop:=
 ∀ (pins:List (Addr × Obj)) (s:Shared) (σ:St) (H:Hp) (xs:List V) (us:List Value) (Q:VK),Inv X pins σ H s->Vals xs us->r xs H Q ->
   wpAny (model X.prog X.w) X.A (call f us) (EP X pins σ Q) X.xe s
noncomputable def tOp (r:R2) (ta tb:TE):TE:=λσ H Q=>ta σ H λx H1=>tb σ H1 λy H2=>r x y H2 Q
noncomputable def tUn (r:V->Hp->VK->Prop) (ta:TE):TE:=λσ H Q=>ta σ H λx H1=>r x H1 Q
noncomputable def rI (C:Int->Int->Prop) (g:Int->Int->V):R2:=λx y H Q=>∃ i j,x=.int i/\y=.int j/\C i j/\Q (g i j) H
noncomputable def rI0 (g:Int->Int->V):R2:=λx y H Q=>∃ i j,x=.int i/\y=.int j/\Q (g i j) H
noncomputable def rU (g:Int->V):V->Hp->VK->Prop:=λx H Q=>∃ i,x=.int i/\Q (g i) H
section
variable {X:Cx} {a b c:Expr} {ta tb tc:TE} {pos:Pos}
theorem sG (ha:PE X a ta) (hb:PE X b tb) {pins:List (Addr × Obj)} {s:Shared} {σ:St} {H:Hp} {R:V->V->Hp->Prop} (I:Inv X pins σ H s)
   (h:ta σ H λx H1=>tb σ H1 λy H2=>R x y H2) {Q:Value->Shared->Prop} {f:Value->Value->Sem Value}
   (hf:∀ v u s2 x y H2,Inv X pins σ H2 s2->RelV x v->RelV y u->R x y H2->wpAny (model X.prog X.w) X.A (f v u) Q X.xe s2) :
   wpAny (model X.prog X.w) X.A (eval a X.env) (λv s₁=>wpAny (model X.prog X.w) X.A (eval b X.env) (λu s₂=>wpAny (model X.prog X.w) X.A (f v u) Q X.xe s₂) X.xe s₁) X.xe s:=by
 refine thn (ha pins s σ H _ I h) λv s1 ⟨x,H1,I1,r1,q1⟩=>?_
 refine thn (hb pins s1 σ H1 _ I1 q1) λu s2 ⟨y,H2,I2,r2,q2⟩=>?_
 exact hf v u s2 x y H2 I2 r1 r2 q2
theorem rG {op:Operator} {r:R2} (ho:OpR X (binaryOp op) r) (ha:PE X a ta) (hb:PE X b tb):PE X (.BinOp a op b pos) (tOp r ta tb):=by
 intro pins s σ H Q I h
 exact wpAny_BinOp (sG ha hb I h λv u s2 x y H2 I2 rx ry q=>ho pins s2 σ H2 x y v u Q I2 rx ry q)
theorem vc {op:UnaryOp} {r:V->Hp->VK->Prop} (ho:UnR X (unaryOp op) r) (ha:PE X a ta):PE X (.UnaryOp op a pos) (tUn r ta):=by
 intro pins s σ H Q I h
 exact UnaryOp_ (thn (ha pins s σ H _ I h) λv s1 ⟨x,H1,I1,r1,q1⟩=>ho pins s1 σ H1 x v Q I1 r1 q1)
theorem opI {f:Value->Value->Sem Value} {C:Int->Int->Prop} {g:Int->Int->Int}
   (rule:∀ (i j:Int) (t u:Tok) (s:Shared) (Q:Value->Shared->Prop) (E:Value->Shared->Prop),C i j->Q (.int (g i j) s.toks) { s with toks:=s.toks + 1 }->wpAny (model X.prog X.w) X.A (f (.int i t) (.int j u)) Q E s) :
   OpR X f (rI C λi j=>.int (g i j)):=by
 intro pins s σ H x y v u Q I rx ry h
 obtain ⟨i,j,rfl,rfl,hc,q⟩:=h
 obtain ⟨t,rfl⟩:=rx
 obtain ⟨t',rfl⟩:=ry
 exact rule i j t t' s _ _ hc ⟨.int (g i j),H,I.tok _,⟨_,rfl⟩,q⟩
theorem vC {f:Value->Value->Sem Value} {g:Int->Int->Int}
   (rule:∀ (i j:Int) (t u:Tok) (s:Shared) (Q:Value->Shared->Prop) (E:Value->Shared->Prop),Q (.int (g i j) s.toks) { s with toks:=s.toks + 1 }->wpAny (model X.prog X.w) X.A (f (.int i t) (.int j u)) Q E s) :
   OpR X f (rI0 λi j=>.int (g i j)):=by
 intro pins s σ H x y v u Q I rx ry h
 obtain ⟨i,j,rfl,rfl,q⟩:=h
 obtain ⟨t,rfl⟩:=rx
 obtain ⟨t',rfl⟩:=ry
 exact rule i j t t' s _ _ ⟨.int (g i j),H,I.tok _,⟨_,rfl⟩,q⟩
theorem rm {f:Value->Value->Sem Value} {g:Int->Int->Bool}
   (rule:∀ (i j:Int) (t u:Tok) (s:Shared) (Q:Value->Shared->Prop) (E:Value->Shared->Prop),Q (.bool (g i j)) s->wpAny (model X.prog X.w) X.A (f (.int i t) (.int j u)) Q E s) :
   OpR X f (rI0 λi j=>.bl (g i j)):=by
 intro pins s σ H x y v u Q I rx ry h
 obtain ⟨i,j,rfl,rfl,q⟩:=h
 obtain ⟨t,rfl⟩:=rx
 obtain ⟨t',rfl⟩:=ry
 exact rule i j t t' s _ _ ⟨.bl (g i j),H,I,rfl,q⟩
noncomputable def uL (i j:Int):Prop:=0<=j/\j<=1000000/\i.natAbs < 2 ^ 64
theorem ua:OpR X (binaryOp .Add) (rI0 λi j=>.int (i + j)):=vC λ_ _ _ _ _ _ _ q=>add_int q
theorem tO:OpR X (binaryOp .Sub) (rI0 λi j=>.int (i - j)):=vC λ_ _ _ _ _ _ _ q=>sub_int q
theorem rk:OpR X (binaryOp .Mod) (rI (λ_ j=>j ≠ 0) λi j=>.int (i.fmod j)):=opI λ_ _ _ _ _ _ _ hc q=>mod_int' hc q
theorem t8:OpR X (binaryOp .Pow) (rI uL λi j=>.int (i ^ j.toNat)):=opI λ_ _ _ _ _ _ _ hc q=>pow_int_small hc.1 hc.2.1 hc.2.2 q
theorem unI {f:Value->Sem Value} {g:Int->Int}
   (rule:∀ (i:Int) (t:Tok) (s:Shared) (Q:Value->Shared->Prop) (E:Value->Shared->Prop),Q (.int (g i) s.toks) { s with toks:=s.toks + 1 }->wpAny (model X.prog X.w) X.A (f (.int i t)) Q E s) :
   UnR X f (rU λi=>.int (g i)):=by
 intro pins s σ H x v Q I rx h
 obtain ⟨i,rfl,q⟩:=h
 obtain ⟨t,rfl⟩:=rx
 exact rule i t s _ _ ⟨.int (g i),H,I.tok _,⟨_,rfl⟩,q⟩
theorem sQ:UnR X (unaryOp .USub) (rU λi=>.int (-i)):=unI λ_ _ _ _ _ q=>neg_int q
end
noncomputable def vk:V->V->Bool
 | .non,.non=>true | .non,.int _=>true | .int _,.non=>true | .non,.bl _=>true | .bl _,.non=>true | .non,.str _=>true | .str _,.non=>true
 | .int _,.int _=>true | .bl _,.bl _=>true | .str _,.str _=>true | .byt _,.byt _=>true
 | .int _,.str _=>true | .str _,.int _=>true | .bl _,.str _=>true | .str _,.bl _=>true
 | _,_=>false
noncomputable def rEq:R2:=λx y H Q=>vk x y=true/\Q (.bl (decide (x=y))) H
noncomputable def rNe:R2:=λx y H Q=>vk x y=true/\Q (.bl (!decide (x=y))) H
theorem l6 {i j:Int}:decide (V.int i=V.int j)=(i == j):=by
 rw [Bool.eq_iff_iff]
 simp
theorem qb {i j:Bool}:decide (V.bl i=V.bl j)=(i == j):=by
 rw [Bool.eq_iff_iff]
 simp
theorem mW {i j:Str}:decide (V.str i=V.str j)=(i == j):=by
 rw [Bool.eq_iff_iff]
 simp
theorem l9 {i j:Array UInt8}:decide (V.byt i=V.byt j)=(i.toList == j.toList):=by
 rw [Bool.eq_iff_iff]
 cases i
 cases j
 simp
section
variable {X:Cx} {a b c:Expr} {ta tb tc:TE} {pos:Pos}
theorem aK {pins:List (Addr × Obj)} {σ:St} {H:Hp} {s:Shared} {Q:VK} {k k':Bool} (I:Inv X pins σ H s) (q:Q (.bl k) H) (e:k=k'):EP X pins σ Q (.bool k') s:=by
 subst e
 exact ⟨.bl k,H,I,rfl,q⟩
theorem vK:OpR X (compareOp .Eq) rEq:=by
 intro pins s σ H x y v u Q I rx ry h
 obtain ⟨hs,q⟩:=h
 cases x with
 | non=>
   cases rx
   cases y with
   | non=>cases ry; exact PySem.EqNone.eq_none_none (aK I q (by simp))
   | bl j=>cases ry; exact PySem.EqNone.eq_none_bool (aK I q (by simp))
   | int j=>obtain ⟨t',rfl⟩:=ry; exact PySem.EqNone.eq_none_int (aK I q (by simp))
   | str j=>obtain ⟨t',rfl⟩:=ry; exact PySem.EqNone.eq_none_str (aK I q (by simp))
   | _=>exact absurd (show false=true from hs) Bool.false_ne_true
 | bl i=>
   cases rx
   cases y with
   | non=>cases ry; exact PySem.EqNone.eq_bool_none (aK I q (by simp))
   | bl j=>cases ry; exact eq_bool (aK I q qb)
   | str j=>obtain ⟨t',rfl⟩:=ry; exact PySem.EqMixed.eq_bool_str (aK I q (by simp))
   | _=>exact absurd (show false=true from hs) Bool.false_ne_true
 | int i=>
   obtain ⟨t,rfl⟩:=rx
   cases y with
   | non=>cases ry; exact PySem.EqNone.eq_int_none (aK I q (by simp))
   | int j=>obtain ⟨t',rfl⟩:=ry; exact eq_int (aK I q l6)
   | str j=>obtain ⟨t',rfl⟩:=ry; exact PySem.EqMixed.eq_int_str (aK I q (by simp))
   | _=>exact absurd (show false=true from hs) Bool.false_ne_true
 | str i=>
   obtain ⟨t,rfl⟩:=rx
   cases y with
   | non=>cases ry; exact PySem.EqNone.eq_str_none (aK I q (by simp))
   | bl j=>cases ry; exact PySem.EqMixed.eq_str_bool (aK I q (by simp))
   | int j=>obtain ⟨t',rfl⟩:=ry; exact PySem.EqMixed.eq_str_int (aK I q (by simp))
   | str j=>obtain ⟨t',rfl⟩:=ry; exact eq_str (aK I q mW)
   | _=>exact absurd (show false=true from hs) Bool.false_ne_true
 | byt i=>
   obtain ⟨t,rfl⟩:=rx
   cases y with
   | byt j=>obtain ⟨t',rfl⟩:=ry; exact PySem.W.eq_bytes (aK I q l9)
   | _=>exact absurd (show false=true from hs) Bool.false_ne_true
 | _=>cases y <;> exact absurd (show false=true from hs) Bool.false_ne_true
theorem uP:OpR X (compareOp .NotEq) rNe:=by
 intro pins s σ H x y v u Q I rx ry h
 obtain ⟨hs,q⟩:=h
 cases x with
 | non=>
   cases rx
   cases y with
   | non=>cases ry; exact PySem.EqNone.ne_none_none (aK I q (by simp))
   | bl j=>cases ry; exact PySem.EqNone.ne_none_bool (aK I q (by simp))
   | int j=>obtain ⟨t',rfl⟩:=ry; exact PySem.EqNone.ne_none_int (aK I q (by simp))
   | str j=>obtain ⟨t',rfl⟩:=ry; exact PySem.EqNone.ne_none_str (aK I q (by simp))
   | _=>exact absurd (show false=true from hs) Bool.false_ne_true
 | bl i=>
   cases rx
   cases y with
   | non=>cases ry; exact PySem.EqNone.ne_bool_none (aK I q (by simp))
   | bl j=>cases ry; exact ne_bool (aK I q (congrArg not qb))
   | str j=>obtain ⟨t',rfl⟩:=ry; exact PySem.EqMixed.ne_bool_str (aK I q (by simp))
   | _=>exact absurd (show false=true from hs) Bool.false_ne_true
 | int i=>
   obtain ⟨t,rfl⟩:=rx
   cases y with
   | non=>cases ry; exact PySem.EqNone.ne_int_none (aK I q (by simp))
   | int j=>obtain ⟨t',rfl⟩:=ry; exact ne_int (aK I q (congrArg not l6))
   | str j=>obtain ⟨t',rfl⟩:=ry; exact PySem.EqMixed.ne_int_str (aK I q (by simp))
   | _=>exact absurd (show false=true from hs) Bool.false_ne_true
 | str i=>
   obtain ⟨t,rfl⟩:=rx
   cases y with
   | non=>cases ry; exact PySem.EqNone.ne_str_none (aK I q (by simp))
   | bl j=>cases ry; exact PySem.EqMixed.ne_str_bool (aK I q (by simp))
   | int j=>obtain ⟨t',rfl⟩:=ry; exact PySem.EqMixed.ne_str_int (aK I q (by simp))
   | str j=>obtain ⟨t',rfl⟩:=ry; exact ne_str (aK I q (congrArg not mW))
   | _=>exact absurd (show false=true from hs) Bool.false_ne_true
 | byt i=>
   obtain ⟨t,rfl⟩:=rx
   cases y with
   | byt j=>obtain ⟨t',rfl⟩:=ry; exact PySem.W.ne_bytes (aK I q (congrArg not l9))
   | _=>exact absurd (show false=true from hs) Bool.false_ne_true
 | _=>cases y <;> exact absurd (show false=true from hs) Bool.false_ne_true
theorem uK:OpR X (compareOp .Lt) (rI0 λi j=>.bl (decide (i < j))):=rm λ_ _ _ _ _ _ _ q=>lt_int q
theorem uW:OpR X (compareOp .LtE) (rI0 λi j=>.bl (decide (i<=j))):=rm λ_ _ _ _ _ _ _ q=>le_int q
theorem uR:OpR X (compareOp .Gt) (rI0 λi j=>.bl (decide (j < i))):=rm λ_ _ _ _ _ _ _ q=>gt_int q
theorem ve:OpR X (compareOp .GtE) (rI0 λi j=>.bl (decide (j<=i))):=rm λ_ _ _ _ _ _ _ q=>ge_int q
theorem sR:OpR X (compareOp .Is) (λx y H Q=>y=.non/\Q (.bl (decide (x=.non))) H):=by
 intro pins s σ H x y v u Q I rx ry h
 obtain ⟨rfl,q⟩:=h
 cases ry
 refine is_none_gen (aK I q ?_)
 cases x <;> first
   | (cases rx; rfl)
   | (obtain ⟨t,rfl⟩:=rx; rfl)
theorem pW (b:Expr) {op:CmpOp} (h:op ≠ .In:=by decide) (h2:op ≠ .NotIn:=by decide):behindInMarks op b=false:=by
 have e1:(op == CmpOp.In)=false:=by cases op <;> first | rfl | exact absurd rfl h
 have e2:(op == CmpOp.NotIn)=false:=by cases op <;> first | rfl | exact absurd rfl h2
 cases b <;> simp [behindInMarks,e1,e2]
theorem rq {op:CmpOp} {r:R2} (ho:OpR X (compareOp op) r) (ha:PE X a ta) (hb:PE X b tb) (hm:behindInMarks op b=false):PE X (.Compare a [op] [b] pos) (tOp r ta tb):=by
 intro pins s σ H Q I h
 exact wpAny_Compare1 (sG ha hb I h λv u s2 x y H2 I2 rx ry q=>ho pins s2 σ H2 x y v u Q I2 rx ry q) hm
noncomputable def rX (t:TE):TT:=λσ H Q=>t σ H λx H'=>∃ k,x=.bl k/\Q k H'
theorem ra {op:CmpOp} {r:R2} (ho:OpR X (compareOp op) r) (ha:PE X a ta) (hb:PE X b tb) (hm:behindInMarks op b=false):PT X (.Compare a [op] [b] pos) (rX (tOp r ta tb)):=by
 intro pins s σ H Q I h
 refine wpAny_isTrue_Compare1 (thn (ha pins s σ H _ I h) λv s1 ⟨x,H1,I1,r1,q1⟩=>thn (hb pins s1 σ H1 _ I1 q1) λu s2 ⟨y,H2,I2,r2,q2⟩=>
   thn (ho pins s2 σ H2 x y v u _ I2 r1 r2 q2) λc s3 ⟨z,H3,I3,r3,k,e,q3⟩=>?_) hm
 subst e
 cases r3
 exact wpAny_truthy_bool ⟨H3,I3,q3⟩
noncomputable def lA (r r':R2) (ta tb tc:TE):TE:=λσ H Q=>ta σ H λx H1=>tb σ H1 λy H2=>r x y H2 λz H3=>∃ k,z=.bl k /\
 (if k=true then tc σ H3 λw' H4=>r' y w' H4 Q else Q (.bl false) H3)
theorem oO {op op':CmpOp} {r r':R2} (ho:OpR X (compareOp op) r) (ho':OpR X (compareOp op') r') (ha:PE X a ta) (hb:PE X b tb) (hc:PE X c tc)
   (hm:lastMarks [op,op'] [b,c]=false:=by with_unfolding_all rfl):PE X (.Compare a [op,op'] [b,c] pos) (lA r r' ta tb tc):=by
 intro pins s σ H Q I h
 refine Compare_chain (thn (ha pins s σ H _ I h) λv s1 ⟨x,H1,I1,r1,q1⟩=>chain_link (thn (hb pins s1 σ H1 _ I1 q1) λu s2 ⟨y,H2,I2,r2,q2⟩=>
   thn (ho pins s2 σ H2 x y v u _ I2 r1 r2 q2) λd s3 ⟨z,H3,I3,r3,k,e,q3⟩=>?_)) hm
 subst e
 cases r3
 refine wpAny_truthy_bool ?_
 cases k with
 | false=>exact ite_ff ⟨.bl false,H3,I3,rfl,q3⟩
 | true=>exact ite_tt (chain_last (thn (hc pins s3 σ H3 _ I3 q3) λw' s4 ⟨z',H4,I4,r4,q4⟩=>ho' pins s4 σ H4 y z' u w' Q I4 r2 r4 q4))
theorem oD {op op':CmpOp} {r r':R2} (ho:OpR X (compareOp op) r) (ho':OpR X (compareOp op') r') (ha:PE X a ta) (hb:PE X b tb) (hc:PE X c tc)
   (hm:lastMarks [op,op'] [b,c]=false:=by with_unfolding_all rfl):PT X (.Compare a [op,op'] [b,c] pos) (rX (lA r r' ta tb tc)):=by
 intro pins s σ H Q I h
 refine isTrue_chain (thn (ha pins s σ H _ I h) λv s1 ⟨x,H1,I1,r1,q1⟩=>test_link (thn (hb pins s1 σ H1 _ I1 q1) λu s2 ⟨y,H2,I2,r2,q2⟩=>
   thn (ho pins s2 σ H2 x y v u _ I2 r1 r2 q2) λd s3 ⟨z,H3,I3,r3,k,e,q3⟩=>?_)) hm
 subst e
 cases r3
 refine wpAny_truthy_bool ?_
 cases k with
 | false=>
   obtain ⟨k',e',q'⟩:=q3
   cases e'
   exact ite_ff ⟨H3,I3,q'⟩
 | true=>
   refine ite_tt (test_last (thn (hc pins s3 σ H3 _ I3 q3) λw' s4 ⟨z',H4,I4,r4,q4⟩=>thn (ho' pins s4 σ H4 y z' u w' _ I4 r2 r4 q4) λd' s5 ⟨z2,H5,I5,r5,k2,e2,q5⟩=>?_))
   subst e2
   cases r5
   exact wpAny_truthy_bool ⟨H5,I5,q5⟩
theorem i8:(sizeLine:Nat) < 2 ^ 63:=by rw [sizeLine_eq]; decide
theorem vals1 {x:V} {us:List Value} (r:Vals [x] us):∃ u,us=[u]/\RelV x u:=by
 cases r with
 | cons r1 r2=>cases r2; exact ⟨_,rfl,r1⟩
theorem vals2 {x y:V} {us:List Value} (r:Vals [x,y] us):∃ u w',us=[u,w']/\RelV x u/\RelV y w':=by
 cases r with
 | cons r1 r2=>
   cases r2 with
   | cons r3 r4=>cases r4; exact ⟨_,_,rfl,r1,r3⟩
theorem oT:cF X (.builtin "abs") (λxs H Q=>∃ i,xs=[.int i]/\Q (.int (if i < 0 then -i else i)) H):=by
 intro pins s σ H xs us Q I r h
 obtain ⟨i,rfl,q⟩:=h
 obtain ⟨u,rfl,t,rfl⟩:=vals1 r
 exact call_abs_int λu tk=>⟨.int (if i < 0 then -i else i),H,I.tok _,⟨_,rfl⟩,q⟩
theorem m4 (hc:X.calm=true):cF X (.builtin "max") (λxs H Q=>∃ i j,xs=[.int i,.int j]/\Q (.int (if j > i then j else i)) H):=by
 intro pins s σ H xs us Q I r h
 obtain ⟨i,j,rfl,q⟩:=h
 obtain ⟨u,w',rfl,⟨t,rfl⟩,⟨t',rfl⟩⟩:=vals2 r
 refine max_two_ints (I.ok.hd hc) λh' tk k=>⟨_,H,I.kept k,?_,q⟩
 by_cases hj:j > i
 · rw [if_pos hj,if_pos hj]; exact ⟨_,rfl⟩
 · rw [if_neg hj,if_neg hj]; exact ⟨_,rfl⟩
theorem m8 (hc:X.calm=true):cF X (.builtin "min") (λxs H Q=>∃ i j,xs=[.int i,.int j]/\Q (.int (if j < i then j else i)) H):=by
 intro pins s σ H xs us Q I r h
 obtain ⟨i,j,rfl,q⟩:=h
 obtain ⟨u,w',rfl,⟨t,rfl⟩,⟨t',rfl⟩⟩:=vals2 r
 refine min_two_ints (I.ok.hd hc) λh' tk k=>⟨_,H,I.kept k,?_,q⟩
 by_cases hj:j < i
 · rw [if_pos hj,if_pos hj]; exact ⟨_,rfl⟩
 · rw [if_neg hj,if_neg hj]; exact ⟨_,rfl⟩
theorem nB:cF X (.type "int") (λxs H Q=>(∃ i,xs=[.int i]/\Q (.int i) H)\/∃ k,xs=[.bl k]/\Q (.int (if k then 1 else 0)) H):=by
 intro pins s σ H xs us Q I r h
 rcases h with ⟨i,rfl,q⟩ | ⟨k,rfl,q⟩
 · obtain ⟨u,rfl,t,rfl⟩:=vals1 r
   exact call_int_int ⟨.int i,H,I,⟨_,rfl⟩,q⟩
 · obtain ⟨u,rfl,r1⟩:=vals1 r
   cases r1
   exact call_int_bool ⟨.int (if k then 1 else 0),H,I.tok _,⟨_,rfl⟩,q⟩
end
section
variable {prog:Program} {w:World} {A:Around} {E:Value->Shared->Prop} {s:Shared} {K:PySem.W.Frag} {x dx C f:Addr} {mA:Str->Option Value} {name:Str} {v:Value}
end
section
variable {P:Program} {w:World} {H H':Hp} {h h':Heap} {a C dx:Addr} {fs fs':List (Str × V)}
end
section
variable {X:Cx} {pins:List (Addr × Obj)} {σ:St} {H:Hp} {s:Shared} {a C dx:Addr} {fs:List (Str × V)} {f:Str} {v:V} {A:Around} {E:Value->Shared->Prop}
end
section
variable {X:Cx} {o e value:Expr} {f:Str} {pos pos' tpos:Pos} {ta tv:TE}
end
section
variable {X:Cx} {pins:List (Addr × Obj)} {σ:St} {H:Hp} {s:Shared} {A:Around} {E:Value->Shared->Prop} {Q:Value->Shared->Prop} {c:Value} {b:Bool}
end
structure de (k:Nat) (A:Around):Prop where
 hd:A.handled=none
 dp:A.depth + 3 * k + 5 < recursionLimit
 un:A.units + 16 * k + 200 < cLine
theorem de.mono {j k:Nat} {A:Around} (r:de k A) (h:j<=k):de j A:=⟨r.hd,by have:=r.dp; omega,by have:=r.un; omega⟩
theorem de.deeper {k:Nat} {A:Around} (r:de (k + 1) A) (env:Env):de k (A.deeper env):=
 ⟨r.hd,by have:=r.dp; show A.depth + 1 + 3 * k + 5 < _; omega,by have:=r.un; show A.units + 3 + 16 * k + 200 < _; omega⟩
theorem de.depth {k:Nat} {A:Around} (r:de k A):A.depth < recursionLimit:=by have:=r.dp; omega
theorem de.units {k:Nat} {A:Around} (r:de k A):A.units + 64 < cLine:=by have:=r.un; omega
noncomputable def wj:TA:=λ_ H Q=>Q [] H
noncomputable def vx (ta:TE) (tr:TA):TA:=λσ H Q=>ta σ H λx H1=>tr σ H1 λxs H2=>Q (x :: xs) H2
section
variable {X:Cx} {e:Expr} {es:List Expr} {te:TE} {t:TA} {pos:Pos}
theorem jb:PA X [] wj:=λ_ _ _ _ H Q I h=>Calls.spliced_nil ⟨[],H,I,.nil,h⟩
theorem eQ (ha:PE X e te) (hr:PA X es t) (hs:starEach (e :: es) X.env=(false,eval e X.env) :: starEach es X.env:=by rfl):PA X (e :: es) (vx te t):=by
 intro pos pins s σ H Q I h
 rw [hs]
 show wpAny _ _ (spliced ((false,eval e X.env) :: backTo pos (starEach es X.env))) _ _ s
 refine Calls.spliced_cons (thn (ha pins s σ H _ I h) λu s1 ⟨x,H1,I1,r1,q1⟩=>?_)
 exact thn (hr pos pins s1 σ H1 _ I1 q1) λus s2 ⟨xs,H2,I2,r2,q2⟩=>⟨x :: xs,H2,I2,.cons r1 r2,q2⟩
noncomputable def wq (t:TA):TE:=λσ H Q=>t σ H λxs H1=>xs.length<=sizeLine/\∀ p,H1 p=none->Q (.ref p) (upd H1 p (.tup xs))
noncomputable def v3 (t:TA):TE:=λσ H Q=>t σ H λxs H1=>xs.length<=sizeLine/\∀ p,H1 p=none->Q (.ref p) (upd H1 p (.lst xs))
theorem sF {x1} (h:PA X es t):PE X (.Tuple es x1 pos) (wq t):=by
 intro pins s σ H Q I hq
 refine wpAny_Tuple_spliced (thn (h pos pins s σ H _ I hq) λus s1 ⟨xs,H1,I1,r,z,q⟩=>⟨by rw [<- r.length]; exact z,?_⟩)
 have hf:H1 s1.heap.objs.size=none:=I1.hok.fresh (Nat.le_refl _)
 refine ⟨.ref s1.heap.objs.size,upd H1 s1.heap.objs.size (.tup xs),I1.laid (t':=s1.toks) (λb u e=>Heap.get?_push_of_some _ e) (Nat.le_refl _) ?_,rfl,q _ hf⟩
 exact ⟨z,us,r,⟨_,Heap.get?_push_size _ rfl,rfl,_,rfl⟩⟩
theorem tN (h:PA X es t):PE X (.List es pos) (v3 t):=by
 intro pins s σ H Q I hq
 refine wpAny_List_spliced (thn (h pos pins s σ H _ I hq) λus s1 ⟨xs,H1,I1,r,z,q⟩=>⟨by rw [<- r.length]; exact z,?_⟩)
 have hf:H1 s1.heap.objs.size=none:=I1.hok.fresh (Nat.le_refl _)
 refine ⟨.ref s1.heap.objs.size,upd H1 s1.heap.objs.size (.lst xs),I1.laid (t':=s1.toks) (λb u e=>Heap.get?_push_of_some _ e) (Nat.le_refl _) ?_,rfl,q _ hf⟩
 exact ⟨z,us,0,r,Heap.get?_push_size _ rfl⟩
end
noncomputable abbrev Sp:=List V->Hp->VK->XK->Prop
noncomputable abbrev CXT:=List Env->Hp->Shared->XK->Value->Shared->Prop
structure rE (P:Program) (w:World) (K:PySem.W.Frag) (mg:Str->Option Value) (base:Heap) (A:Around) (outer:List Env) (s:Shared) (H:Hp):Prop where
 frames:A.frames=some outer
 mod:Mod K mg base
 bs:∀ b o,base.get? b=some o->s.heap.get? b=some o/\H b=none
 bsz:base.objs.size<=s.heap.objs.size
 gM:s.heap.FunFrames base outer
 frf:∀ b ∈ frs outer,H b=none
 hok:HOk P w H s.heap
 bare:AllBare s.gens
noncomputable def CE (outer:List Env) (P:Program) (w:World) (H:Hp) (s:Shared) (Q:VK) (u:Value) (s':Shared):Prop:=
 ∃ v H',s'.os=s.os/\AllBare s'.gens/\Un (frs outer) [] H H' s.heap s'.heap/\HOk P w H' s'.heap/\RelV v u/\Q v H'
noncomputable def CR (CX:CXT) (outer:List Env) (P:Program) (w:World) (H:Hp) (s:Shared) (Q:VK) (E:XK) (r:Result) (s':Shared):Prop:=
 match r with
 | .ok (.ret u)=>CE outer P w H s Q u s'
 | .ok _=>False
 | .error e=>CX outer H s E e s'
structure aN (P:Program) (w:World) (K:PySem.W.Frag) (mg:Str->Option Value) (base:Heap) (CX:CXT) (k:Nat) (f:Addr) (fd:FuncData) (ps:List Str) (sp:Sp):Prop where
 len:∀ vs H Q E,sp vs H Q E->vs.length=ps.length
 run:∀ (A:Around) (outer:List Env) (s:Shared) (H:Hp) (args:Args) (us:List Value) (vs:List V) (Q:VK) (E:XK),de k A->rE P w K mg base A outer s H->BindsTo s fd args (ps.zip us)->Vals vs us->sp vs H Q E ->
   codeAny (model P w) A (.call (.ref f) args) (CR CX outer P w H s Q E) s
theorem aN.mono {P:Program} {w:World} {K:PySem.W.Frag} {mg:Str->Option Value} {base:Heap} {CX:CXT} {j k:Nat} {f:Addr} {fd:FuncData} {ps:List Str} {sp:Sp} (F:aN P w K mg base CX j f fd ps sp) (h:j<=k) :
   aN P w K mg base CX k f fd ps sp:=⟨F.len,λA outer s H args us vs Q E hr=>F.run A outer s H args us vs Q E (hr.mono h)⟩
section
variable {X:Cx} {pins:List (Addr × Obj)} {σ:St} {H:Hp} {s s':Shared}
theorem Inv.vV (I:Inv X pins σ H s):rE X.prog X.w X.K X.mg X.base X.A X.stack s H:=
 ⟨I.ok.frames,I.ok.mod,I.bs,Nat.le_trans I.ok.bsz I.sz,I.stack,I.mf,I.hok,I.bare⟩
theorem Inv.after {Q:VK} {u:Value} (I:Inv X pins σ H s) (h:CE X.stack X.prog X.w H s Q u s'):EP X pins σ Q u s':=by
 obtain ⟨v,H',os,bare,un,hok,r,q⟩:=h
 obtain ⟨hh,g,d,t,os'⟩:=s'
 obtain rfl:os'=s.os:=os
 exact ⟨v,H',I.call (h':=hh) (g':=g) (d':=d) (t':=t) (ch:=[]) un hok bare (λb z=>absurd z (by simp)),r,q⟩
end
noncomputable def vR (sp:Sp) (dvs:List V) (E:XK) (t:TA):TE:=λσ H Q=>t σ H λvs H1=>sp (vs++dvs) H1 Q E
noncomputable def Binds (K:PySem.W.Frag) (fd:FuncData) (ps:List Str) (ds:List Value):Prop:=
 ∀ (s:Shared) (us:List Value),K.In s.heap->(us++ds).length=ps.length->BindsTo s fd ⟨us,[]⟩ (ps.zip (us++ds))
theorem Binds.all {K:PySem.W.Frag} {fd:FuncData} {ps:List Str} (h:∀ us:List Value,us.length=ps.length->bindArgs fd ⟨us,[]⟩=pure (ps.zip us)):Binds K fd ps []:=λs us _ hl=>by
 rw [List.append_nil] at hl ⊢
 exact .of_eq (h us hl)
noncomputable def Passes (CX:CXT) (X:Cx) (E:XK):Prop:=∀ (pins:List (Addr × Obj)) (σ:St) (H:Hp) (s:Shared) (e:Value) (s':Shared),Inv X pins σ H s->CX X.stack H s E e s'->X.xe e s'
section
variable {X:Cx} {CX:CXT} {k:Nat} {f C:Addr} {fd:FuncData} {ps:List Str} {sp:Sp} {dvs:List V} {ds:List Value} {E:XK} {x m:Str} {p pos apos:Pos} {e o:Expr} {es:List Expr} {ta:TE} {t:TA}
theorem tu {pins:List (Addr × Obj)} {σ:St} {H:Hp} {s:Shared} {Q:VK} {us:List Value} {vs:List V} (F:aN X.prog X.w X.K X.mg X.base CX k f fd ps sp) (hr:de k X.A) (hb:Binds X.K fd ps ds) (hd:Vals dvs ds) (hx:Passes CX X E)
   (I:Inv X pins σ H s) (r:Vals vs us) (h:sp (vs++dvs) H Q E):wpAny (model X.prog X.w) X.A (call (.ref f) us) (EP X pins σ Q) X.xe s:=by
 have r2:Vals (vs++dvs) (us++ds):=r.append hd
 have hl:(us++ds).length=ps.length:=by rw [<- r2.length]; exact F.len _ _ _ _ h
 refine wpAny_call (codeAny_mono (F.run X.A X.stack s H ⟨us,[]⟩ (us++ds) (vs++dvs) Q E hr I.vV (hb s us I.kIn hl) r2 h) λr s' hq=>?_)
 cases r with
 | error e=>exact hx pins σ H s e s' I hq
 | ok fl=>
   cases fl with
   | ret u=>exact I.after hq
   | next=>exact False.elim hq
   | brk=>exact False.elim hq
   | cont=>exact False.elim hq
theorem rf (F:aN X.prog X.w X.K X.mg X.base CX k f fd ps sp) (hr:de k X.A) (hg:Gl X x) (hm:X.mg x=some (.ref f)) (hk:PySem.W.keepIn X.K (.ref f)=true) (hb:Binds X.K fd ps ds) (hd:Vals dvs ds) (hx:Passes CX X E)
   (ha:PA X (e :: es) t) (hdb:(x == ("__debug__" : Str))=false:=by decide) (he:starEach (e :: es) X.env=(false,eval e X.env) :: starEach es X.env:=by rfl) (hpl:(backTo pos (starEach es X.env)).any (·.1)=false:=by rfl) :
   PE X (.Call (.Name x p) (e :: es) [] pos) (vR sp dvs E t):=by
 intro pins s σ H Q I h
 refine wpAny_Call_Name_kw (mU I hg hm ?_ hdb)
 refine PySem.W.callWith_K (h₀:=X.base) I.ok.mod.kin hk (thn (ha pos pins s σ H _ I h) λus s1 ⟨vs,H1,I1,r,q⟩=>⟨I1.kIn,?_⟩) he hpl
 exact tu F hr hb hd hx I1 r q
end
section
variable {X:Cx} {CX:CXT} {k:Nat} {f C:Addr} {fd:FuncData} {ps ks:List Str} {sp:Sp} {E:XK} {x m:Str} {p pos apos kpos:Pos} {e o:Expr} {es:List Expr} {kws:List Keyword} {te ta:TE} {t tk:TA} {nm:Option Str}
variable {g:List Value->List Value->List Value} {gV:List V->List V->List V}
end
structure au (N P:List Str) (sc:Scope):Prop where
 kind:sc.kind=.function
 co:sc.isCoroutine=false
 gen:sc.isGenerator=false
 nd:N.Nodup
 pre:N.take P.length=P
 par:∀ x ∈ P,sc.names.lookup x=some .local\/sc.names.lookup x=some .cell
 nofree:∀ y ∈ sc.names,y.2 ≠ .free
theorem iT {kindOf:Str->Option NameKind} {x:Str}:∀ {binds:List (Str × Value)} {m:Str->Option Value},(∀ v,(x,v) ∉ binds)->bindL kindOf binds m x=m x
 | [],_,_=>rfl
 | (n,v) :: r,m,h=>by
   unfold bindL
   rw [iT λw hw=>h w (List.mem_cons_of_mem _ hw)]
   split
   · have:x ≠ n:=by rintro rfl; exact h v List.mem_cons_self
     simp [this]
   · rfl
theorem iE {kindOf:Str->Option NameKind} {x:Str}:∀ {binds:List (Str × Value)} {m:Str->Option Value},(∀ v,(x,v) ∉ binds)->bindC kindOf binds m x=m x
 | [],_,_=>rfl
 | (n,v) :: r,m,h=>by
   unfold bindC
   rw [iE λw hw=>h w (List.mem_cons_of_mem _ hw)]
   split
   · rfl
   · have:x ≠ n:=by rintro rfl; exact h v List.mem_cons_self
     simp [this]
theorem iW {kindOf:Str->Option NameKind} {x:Str} {v:Value}:∀ {P:List Str} {vs:List Value} {i:Nat} {m:Str->Option Value},P.Nodup->P[i]?=some x->vs[i]?=some v->kindOf x=some .local ->
   bindL kindOf (P.zip vs) m x=some v
 | [],_,_,_,_,h,_,_=>by simp at h
 | _ :: _,[],_,_,_,_,h,_=>by simp at h
 | p :: P,w :: vs,0,m,nd,h1,h2,hk=>by
   simp at h1 h2; subst h1; subst h2
   show bindL kindOf ((p,w) :: P.zip vs) m p=_
   unfold bindL
   rw [iT λv hv=>(List.nodup_cons.mp nd).1 (List.of_mem_zip hv).1,if_pos hk]
   simp
 | p :: P,w :: vs,i + 1,m,nd,h1,h2,hk=>by
   show bindL kindOf ((p,w) :: P.zip vs) m x=_
   unfold bindL
   exact iW (i:=i) (List.nodup_cons.mp nd).2 (by simpa using h1) (by simpa using h2) hk
theorem iR {kindOf:Str->Option NameKind} {x:Str} {v:Value}:∀ {P:List Str} {vs:List Value} {i:Nat} {m:Str->Option Value},P.Nodup->P[i]?=some x->vs[i]?=some v->kindOf x ≠ some .local ->
   bindC kindOf (P.zip vs) m x=some v
 | [],_,_,_,_,h,_,_=>by simp at h
 | _ :: _,[],_,_,_,_,h,_=>by simp at h
 | p :: P,w :: vs,0,m,nd,h1,h2,hk=>by
   simp at h1 h2; subst h1; subst h2
   show bindC kindOf ((p,w) :: P.zip vs) m p=_
   unfold bindC
   rw [iE λv hv=>(List.nodup_cons.mp nd).1 (List.of_mem_zip hv).1,if_neg hk]
   simp
 | p :: P,w :: vs,i + 1,m,nd,h1,h2,hk=>by
   show bindC kindOf ((p,w) :: P.zip vs) m x=_
   unfold bindC
   exact iR (i:=i) (List.nodup_cons.mp nd).2 (by simpa using h1) (by simpa using h2) hk
noncomputable def start (N:List Str) (vs:List V):St:=vs.map some++List.replicate (N.length - vs.length) none
noncomputable def lE (CX:CXT) (P:Program) (w:World) (K:PySem.W.Frag) (mg:Str->Option Value) (base:Heap) (N:List Str) (qual:Str) (scope:Scope) (f:Addr) (cd:Value) (A:Around) (outer:List Env) (s:Shared) (H:Hp) (E:XK):Cx where
 prog:=P
 w:=w
 K:=K
 mg:=mg
 base:=base
 A:=A.deeper (envOfC qual scope s.heap.objs.size f cd)
 N:=N
 s₀:=s
 H₀:=H
 env:=envOfC qual scope s.heap.objs.size f cd
 outer:=outer
 stack:=envOfC qual scope s.heap.objs.size f cd :: outer
 ex:=[]
 calm:=true
 fn:=λ_=>true
 pn:=[]
 xe:=λe s'=>wpAny (model P w) (A.deeper (envOfC qual scope s.heap.objs.size f cd)) (leaving (envOfC qual scope s.heap.objs.size f cd) e) (λ_ s''=>CX outer H s E e s'') (λe' s''=>CX outer H s E e' s'') s'
theorem ke {sc:Scope} {n:Nat} {x:Str} (h:sc.names.lookup x=some .cell):∃ c,(cellsFrom n sc.names []).lookup x=some c:=by
 have q:=PySem.W.cellsFrom_some sc.names n [] (.inl h)
 exact Option.isSome_iff_exists.mp q
theorem nE {CX:CXT} {P:Program} {w:World} {K:PySem.W.Frag} {mg:Str->Option Value} {base:Heap} {N ps:List Str} {qual:Str} {scope:Scope} {f:Addr} {cd:Value} {A:Around} {outer:List Env} {s s1:Shared} {H:Hp} {E:XK} {us:List Value} {vs:List V}
   (S:au N ps scope) {cm:Bool} (hd:cm=true->A.handled=none) (e0:rE P w K mg base A outer s H) (hl:vs.length=ps.length) (r:Vals vs us)
   (x:InCallC s s.heap.objs.size (bindL (envOfC qual scope s.heap.objs.size f cd).kindOf (ps.zip us) λ_=>none) (cellsFrom (s.heap.objs.size + 1) scope.names []) (bindC (envOfC qual scope s.heap.objs.size f cd).kindOf (ps.zip us) λ_=>none) s1) :
   Inv { lE CX P w K mg base N qual scope f cd A outer s H E with calm:=cm } [] (start N vs) H s1:=by
 have hpl:ps.length<=N.length:=by have:=congrArg List.length S.pre; rw [List.length_take] at this; omega
 obtain ⟨h1,tk,rfl,hk⟩:=x.done
 have noA:∀ b:Addr,b ∉ (lE CX P w K mg base N qual scope f cd A outer s H E).ex:=λb z=>absurd (show b ∈ ([]:List Addr) from z) (by simp)
 refine ⟨⟨e0.mod,S.kind,rfl,rfl,Nat.le_refl _,λy z c h1 h2=>?_,λy hy=>?_,λy c _ h=>?_,hd,Around.frames_deeper e0.frames,.inr ⟨rfl,rfl⟩,λb z=>absurd z (noA b),e0.bs,e0.bsz,λb _ _=>noA b,λb z=>absurd z (noA b),e0.gM,e0.frf⟩,
   rfl,e0.bare,Un.kept hk,⟨_,x.toInCall.ns,λi y v h1 h2 h3=>?_⟩,λy c h=>⟨_,x.cell y c h⟩,e0.hok.fresh (Nat.le_refl _),λy c h=>?_,λp hp=>absurd (show p ∈ ([]:List (Addr × Obj)) from hp) (by simp),e0.hok.kept hk,?_⟩
 · exact name_of_addr x.apart (PySem.mem_of_lookup h1) (PySem.mem_of_lookup h2)
 · have hy:scope.names.lookup y=some .cell\/scope.names.lookup y=some .free:=hy
   rcases hy with hy | hy
   · exact ke hy
   · exact absurd rfl (S.nofree _ (PySem.mem_of_lookup hy))
 · exact Nat.le_of_lt (x.above y c (PySem.mem_of_lookup h))
 · have hi:i < vs.length:=by
     unfold start at h2
     by_cases hi:i < vs.length
     · exact hi
     · rw [List.getElem?_append_right (by simpa using hi)] at h2
       rw [List.getElem?_replicate] at h2
       split at h2 <;> cases h2
   have ha:vs[i]?=some v:=by
     unfold start at h2
     rw [List.getElem?_append_left (by simpa using hi),List.getElem?_map] at h2
     cases e:vs[i]? with
     | none=>rw [e] at h2; cases h2
     | some a=>rw [e] at h2; cases h2; rfl
   obtain ⟨u,hu,rv⟩:=r.get ha
   have hp:ps[i]?=some y:=by
     rw [<- S.pre,List.getElem?_take_of_lt (by omega)]; exact h1
   have ndP:ps.Nodup:=by rw [<- S.pre]; exact S.nd.sublist (List.take_sublist _ _)
   refine ⟨u,rv,?_⟩
   rcases S.par y (List.mem_of_getElem? hp) with k | k
   · exact .inl ⟨k,iW ndP hp hu k⟩
   · obtain ⟨c,e⟩:=ke (n:=s.heap.objs.size + 1) k
     refine .inr ⟨.inl k,c,e,?_⟩
     have q:=x.cell y c e
     rw [iR ndP hp hu (by show scope.names.lookup y ≠ _; rw [k]; decide)] at q
     exact q
 · exact e0.hok.fresh (Nat.le_of_lt (x.above y c (PySem.mem_of_lookup h)))
 · unfold start
   show _=N.length
   rw [List.length_append,List.length_map,List.length_replicate]
   omega
theorem uJ {CX:CXT} {P:Program} {w:World} {K:PySem.W.Frag} {mg:Str->Option Value} {base:Heap} {k:Nat} {f:Addr} {name qual:Str} {params:Arguments} {body:List Stmt} {scope:Scope} {dV kV doc pm cdv ct oc:Value} {an od:Option Addr}
   {osl:Array (Option Value)} {N ps:List Str} {sp:Sp} (lk:K.lookup f=some ⟨oc,od,.func (PySem.W.fnOf name qual params body scope dV kV doc pm an cdv ct),osl⟩) (hcd:PySem.W.codeIn K cdv qual=true) (S:au N ps scope)
   (len:∀ vs H Q E,sp vs H Q E->vs.length=ps.length)
   (hbody:∀ (A:Around) (outer:List Env) (s:Shared) (H:Hp) (vs:List V) (Q:VK) (E:XK),de k (A.deeper (envOfC qual scope s.heap.objs.size f cdv))->sp vs H Q E ->
     ∃ t,PSs (lE CX P w K mg base N qual scope f cdv A outer s H E) body t/\t { nx:=λ_ H'=>Q .non H',rt:=Q } (start N vs) H) :
   aN P w K mg base CX (k + 1) f (PySem.W.fnOf name qual params body scope dV kV doc pm an cdv ct) ps sp:=by
 refine ⟨len,λA outer s H args us vs Q E hr e0 hb r hsp=>?_⟩
 have hl:=len _ _ _ _ hsp
 have KX:K.In s.heap:=e0.mod.kin.keeps λb o e=>(e0.bs b o e).1
 have lim:s.heap.NoLimit:=e0.mod.nolimit.keeps λb o e=>(e0.bs b o e).1
 have hkind:∀ y ∈ ps.zip us,scope.names.lookup y.1=some .local\/(scope.names.lookup y.1=some .cell/\((cellsFrom (s.heap.objs.size + 1) scope.names []).lookup y.1).isSome=true):=λ⟨n,v⟩ hy=>by
   rcases S.par n (List.of_mem_zip hy).1 with q | q
   · exact .inl q
   · exact .inr ⟨q,PySem.W.cellsFrom_some _ _ _ (.inl q)⟩
 refine codeAny_call_function hr.depth (KX _ _ lk) rfl S.co S.gen rfl (PySem.W.codeRec_of KX hcd) (hb _ _ _ _ ?_)
 refine wpAny_newFunctionEnv_cells S.kind hkind λenv he s1 x=>?_
 subst he
 refine ⟨lim.keeps x.toInCall.keep,codeAny_func ?_⟩
 obtain ⟨t,ht,hq⟩:=hbody A outer s H vs Q E (hr.deeper _) hsp
 have I:Inv (lE CX P w K mg base N qual scope f cdv A outer s H E) [] (start N vs) H s1:=nE (cm:=true) S (λ_=>hr.hd) e0 hl r x
 refine wpAny_mono (ht [] s1 (start N vs) H _ I hq) (λfl s' hs=>?_) λe s' hs=>hs
 have fin:∀ {σ':St} {H':Hp} {v:V} {u:Value},Inv (lE CX P w K mg base N qual scope f cdv A outer s H E) [] σ' H' s'->RelV v u->Q v H'->CE outer P w H s Q u s':=
   λ{σ' H' v u} J rv q=>⟨v,H',J.os,J.bare,J.base,J.hok,rv,q⟩
 cases fl with
 | ret u=>
   obtain ⟨v,σ',H',J,rv,q⟩:=hs
   exact fin J rv q
 | next=>
   obtain ⟨σ',H',J,q⟩:=hs
   exact fin (v:=V.non) (u:=Value.none) J rfl q
 | brk=>
   obtain ⟨_,_,_,q⟩:=hs
   exact False.elim q
 | cont=>
   obtain ⟨_,_,_,q⟩:=hs
   exact False.elim q
section
variable {X:Cx} {x:Str} {p pos:Pos} {e:Expr} {es:List Expr} {t:TA} {id T:String} {r:List V->Hp->VK->Prop}
noncomputable def tCB (r:List V->Hp->VK->Prop) (t:TA):TE:=λσ H Q=>t σ H λvs H1=>r vs H1 Q
theorem j7 (hc:cF X (.builtin id) r) (hg:Gl X x) (hm:X.mg x=none) (hv:bootBuiltins x=some (.builtin id)) (ha:PA X (e :: es) t) (hn:x ≠ "__name__":=by decide) (hdb:(x == ("__debug__" : Str))=false:=by decide)
   (he:starEach (e :: es) X.env=(false,eval e X.env) :: starEach es X.env:=by rfl) (hpl:(backTo pos (starEach es X.env)).any (·.1)=false:=by rfl):PE X (.Call (.Name x p) (e :: es) [] pos) (tCB r t):=by
 intro pins s σ H Q I h
 refine wpAny_Call_Name_kw (ee I hg hm hv ?_ hn hdb)
 exact PyProof.Rows.callWith_builtin1 (thn (ha pos pins s σ H _ I h) λus s1 ⟨vs,H1,I1,r1,q1⟩=>hc pins s1 σ H1 vs us Q I1 r1 q1) he hpl
theorem nA (hc:cF X (.type T) r) (hg:Gl X x) (hm:X.mg x=none) (hv:bootBuiltins x=some (.type T)) (ha:PA X (e :: es) t) (hn:x ≠ "__name__":=by decide) (hdb:(x == ("__debug__" : Str))=false:=by decide)
   (he:starEach (e :: es) X.env=(false,eval e X.env) :: starEach es X.env:=by rfl) (hpl:(backTo pos (starEach es X.env)).any (·.1)=false:=by rfl):PE X (.Call (.Name x p) (e :: es) [] pos) (tCB r t):=by
 intro pins s σ H Q I h
 refine wpAny_Call_Name_kw (ee I hg hm hv ?_ hn hdb)
 exact PyProof.Rows.callWith_type1 (thn (ha pos pins s σ H _ I h) λus s1 ⟨vs,H1,I1,r1,q1⟩=>hc pins s1 σ H1 vs us Q I1 r1 q1) he hpl
end
end L2
namespace HT
open PySem PyProof.Rows
section
open PySem.SeqAt
open PySem.AutoSeq1 (wpAny_loadPart')
open PySem.MeetsSeq PySem.MeetsSeq2 PySem.MeetsSeq3
end
section
variable {prog:Program} {w:World} {A:Around} {E:Value->Shared->Prop} {s:Shared}
theorem rg {t b:Addr} {vs ws:List Value} {Q:Value->Shared->Prop} (ht:IsTup s.heap t vs.toArray) (hb:IsTup s.heap b ws.toArray) (hv:vs ≠ [])
   (h1:ws=[]->Q (.ref t) s) (h2:ws ≠ []->Q (.ref s.heap.objs.size) { s with heap:=s.heap.push { cls:=.type "tuple",data:=.seq (vs++ws).toArray } })
   (hsz:vs.length + ws.length<=sizeLine):wpAny (model prog w) A (binaryOp .Add (.ref t) (.ref b)) Q E s:=by
 obtain ⟨⟨cls,dd,data,sl⟩,ho,hc,n,hd⟩:=id ht
 obtain ⟨⟨cls2,dd2,data2,sl2⟩,ho2,hc2,n2,hd2⟩:=id hb
 simp only at hc hd hc2 hd2
 subst hc hd hc2 hd2
 have e:vs.toArray++ws.toArray=(vs++ws).toArray:=by simp
 by_cases hw:ws=[]
 · exact concat_meets ⟨_,ho,rfl⟩ ⟨_,ho2,rfl⟩ noFill_tuple_add seq_tuple_add PySem.F.slot_tuple_add PySem.F.entry_tuple_add (PySem.F.args_tuple_add_2 _ _)
     (tuple_addW1 t b vs.toArray ws.toArray n n2 dd dd2 sl sl2 (by simpa using hv) (by simp [hw])) ⟨ho,ho2,h1 hw⟩
 · refine concat_meets ⟨_,ho,rfl⟩ ⟨_,ho2,rfl⟩ noFill_tuple_add seq_tuple_add PySem.F.slot_tuple_add PySem.F.entry_tuple_add (PySem.F.args_tuple_add_2 _ _)
     (tuple_addW2 t b vs.toArray ws.toArray n n2 dd dd2 sl sl2 (by simpa using hv) (by simpa using hw) (by rw [List.size_toArray,List.size_toArray]; exact hsz)) ⟨ho,ho2,?_⟩
   rw [e]
   exact h2 hw
noncomputable def sIx (n d:Nat):Option Int->Nat
 | none=>d
 | some v=>if v < 0 then (v + (n:Int)).toNat else min v.toNat n
theorem g8 (n d:Nat):sIx n d none=d:=rfl
theorem dP (n d k:Nat):sIx n d (some (k:Int))=min k n:=by
 show (if (k:Int) < 0 then ((k:Int) + (n:Int)).toNat else min (k:Int).toNat n)=min k n
 rw [if_neg (by omega),Int.toNat_natCast]
theorem sO (n d:Nat) (hd:d<=n) (o:Option Int):sIx n d o<=n:=by
 cases o with
 | none=>exact hd
 | some v=>
   show (if v < 0 then (v + (n:Int)).toNat else min v.toNat n)<=n
   by_cases hv:v < 0
   · rw [if_pos hv]; omega
   · rw [if_neg hv]; exact Nat.min_le_right _ _
theorem l7 (v:Int) (n d:Nat):(if v < 0 then max (v + (n:Int)) 0 else min v (n:Int))=((sIx n d (some v):Nat):Int):=by
 show (if v < 0 then max (v + (n:Int)) 0 else min v (n:Int))=(((if v < 0 then (v + (n:Int)).toNat else min v.toNat n):Nat):Int)
 by_cases hv:v < 0
 · simp only [if_pos hv]; omega
 · simp only [if_neg hv]; omega
theorem kQ (lo hi:Option Int) (n:Nat):Builtin.Slice.sliceAdjust lo hi 1 (n:Int)=(((sIx n 0 lo:Nat):Int),((sIx n n hi:Nat):Int)):=by
 have h1:¬ ((1:Int) < 0):=by omega
 unfold Builtin.Slice.sliceAdjust
 simp only [h1,if_false]
 refine Prod.ext ?_ ?_
 · cases lo with
   | none=>rfl
   | some v=>exact l7 v n 0
 · cases hi with
   | none=>rfl
   | some v=>exact l7 v n n
theorem lb (i j:Nat):Builtin.Slice.slicePlaces (i:Int) (j:Int) 1=j - i:=by
 unfold Builtin.Slice.slicePlaces
 have h1:(1:Int) > 0:=by omega
 simp only [h1,if_true,Int.ediv_one]
 split <;> omega
theorem gn {v:Value} {o:Option Int} {Q:Option Int->Shared->Prop} (p:IsPart v o) (h:Q o s):wpAny (model prog w) A (Builtin.Slice.slicePartIndex v) Q E s:=by
 cases p with
 | none=>exact slicePart_none h
 | int i t=>exact slicePart_int h
theorem fE {sl:Addr} {vl vu:Value} {lo hi:Option Int} {n:Nat} {Q:Int × Int × Nat->Shared->Prop} (hs:s.heap.IsSliceOf sl vl vu .none) (pl:IsPart vl lo) (pu:IsPart vu hi)
   (h:Q (((sIx n 0 lo:Nat):Int),1,sIx n n hi - sIx n 0 lo) s):wpAny (model prog w) A (Builtin.Slice.sliceApplied (.ref sl) (pure (n:Int))) Q E s:=by
 obtain ⟨os,hos,hcs,hds⟩:=id hs
 unfold Builtin.Slice.sliceApplied Builtin.Slice.sliceFields
 refine wpAny_bind (wpAny_bind (wpAny_field hos hds (x:=vl) rfl (wpAny_bind (wpAny_field hos hds (x:=vu) rfl (wpAny_bind (wpAny_field hos hds (x:=.none) rfl (wpAny_pure ?_)))))))
 refine wpAny_bind (slicePart_none ?_)
 show wpAny _ _ (if ((1:Int) == 0)=true then _ else _) _ _ s
 rw [if_neg (by decide)]
 refine wpAny_bind (gn pl (wpAny_bind (gn pu (wpAny_bind (wpAny_pure ?_)))))
 show wpAny _ _ (match Builtin.Slice.sliceAdjust lo hi 1 (n:Int) with | (lo,hi)=>pure (lo,(1:Int),Builtin.Slice.slicePlaces lo hi 1)) _ _ s
 rw [kQ lo hi n]
 show wpAny _ _ (pure (((sIx n 0 lo:Nat):Int),(1:Int),Builtin.Slice.slicePlaces ((sIx n 0 lo:Nat):Int) ((sIx n n hi:Nat):Int) 1)) _ _ s
 rw [lb]
 exact wpAny_pure h
theorem ou (xs:Array Value) (i k:Nat):((List.range k).filterMap λ(m:Nat)=>xs[((i:Int) + (m:Int) * 1).toNat]?).toArray=((xs.toList.drop i).take k).toArray:=by
 have e:(λ(m:Nat)=>xs[((i:Int) + (m:Int) * 1).toNat]?)=λm=>xs[i + m]?:=by
   funext m
   have:((i:Int) + (m:Int) * 1).toNat=i + m:=by omega
   rw [this]
 rw [e]
 have:=pick_run xs i k
 rw [List.filterMap_map] at this
 have e2:((λx=>xs[x]?) ∘ λx=>i + x)=λm=>xs[i + m]?:=rfl
 rw [e2] at this
 rw [this]
theorem e7 {t sl:Addr} {items:Array Value} {vl vu:Value} {lo hi:Option Int} {Q:Value->Shared->Prop} (ht:IsTup s.heap t items) (hs:s.heap.IsSliceOf sl vl vu .none) (pl:IsPart vl lo) (pu:IsPart vu hi)
   (hw:¬ (sIx items.size 0 lo=0/\sIx items.size items.size hi=items.size))
   (h:Q (.ref s.heap.objs.size) { s with heap:=s.heap.push { cls:=.type "tuple",data:=.seq ((items.toList.drop (sIx items.size 0 lo)).take (sIx items.size items.size hi - sIx items.size 0 lo)).toArray } })
   (hsz:items.size<=sizeLine):wpAny (model prog w) A (getItem (.ref t) (.ref sl)) Q E s:=by
 have htake:sizeOk (.seq ((items.toList.drop (sIx items.size 0 lo)).take (sIx items.size items.size hi - sIx items.size 0 lo)).toArray):=by
   show ((items.toList.drop (sIx items.size 0 lo)).take (sIx items.size items.size hi - sIx items.size 0 lo)).toArray.size<=sizeLine
   rw [List.size_toArray,List.length_take,List.length_drop,Array.length_toList]
   omega
 have hj:sIx items.size items.size hi<=items.size:=sO _ _ (Nat.le_refl _) hi
 obtain ⟨os,hos,hcs,hds⟩:=id hs
 have hTs:s.TypeIs (.ref sl) "slice":=⟨os,hos,hcs⟩
 unfold getItem
 try with_reducible refine wpAny_holding ?_
 first | refine wpAny_bind (wpAny_pure ?_) | skip
 refine wpAny_bind (wpAny_sequenceKey ht.typeIs (by decide) ?_)
 refine wpAny_bind (wpAny_callSpecial?_slot (name:=Str.ofString "__getitem__") ht.typeIs PyProof.Rows.slot_tuple_getitem
   (wpAny_call_entry PyProof.Rows.slot_tuple_getitem ht.typeIs entry_tuple_getitem ?_ (args_tuple_getitem _ _)))
 show wpAny _ _ (Builtin.Tuple.tupleItemsOf (.ref t) >>= _) _ _ s
 refine wpAny_bind (tupleItemsOf_ ht ?_)
 refine wpAny_bind (wpAny_typeOf hTs ?_)
 rw [if_pos (by decide)]
 refine wpAny_bind (fE hs pl pu ?_)
 have hno:¬ ((((sIx items.size 0 lo:Nat):Int) == 0 && (1:Int) == 1 && (sIx items.size items.size hi - sIx items.size 0 lo) == items.size)=true):=by
   intro q
   rw [Bool.and_eq_true,Bool.and_eq_true] at q
   have q1:((sIx items.size 0 lo:Nat):Int)=0:=eq_of_beq q.1.1
   have q2:sIx items.size items.size hi - sIx items.size 0 lo=items.size:=eq_of_beq q.2
   exact hw ⟨by omega,by omega⟩
 show wpAny _ _ (if (((sIx items.size 0 lo:Nat):Int) == 0 && (1:Int) == 1 && (sIx items.size items.size hi - sIx items.size 0 lo) == items.size)=true then _ else _) _ _ s
 rw [if_neg hno,ou]
 first
   | exact wpAny_bind (m:=Builtin.Tuple.tupleExact _) (wpAny_newObj_type (wpAny_pure ⟨_,rfl,wpAny_pure h⟩) htake)
   | exact wpAny_bind (m:=Builtin.Tuple.tupleExact _) (wpAny_newObj_type (wpAny_bind (wpAny_pure (wpAny_pure ⟨_,rfl,wpAny_pure h⟩))) htake)
   | exact wpAny_bind (wpAny_bind (m:=Builtin.Tuple.tupleExact _) (wpAny_newObj_type (wpAny_pure (wpAny_pure ⟨_,rfl,wpAny_pure h⟩)) htake))
   | exact wpAny_bind (wpAny_bind (m:=Builtin.Tuple.tupleExact _) (wpAny_newObj_type (wpAny_pure ⟨_,rfl,wpAny_pure h⟩) htake))
end
end HT
namespace L2
open PySem PySem.Spec PyProof.Rows
noncomputable abbrev TO:=St->Hp->(Option Int->Hp->Prop)->Prop
noncomputable def PO (X:Cx) (e:Option Expr) (t:TO):Prop:=
 ∀ (pins:List (Addr × Obj)) (s:Shared) (σ:St) (H:Hp) (Q:Option Int->Hp->Prop),Inv X pins σ H s->t σ H Q ->
   wpAny (model X.prog X.w) X.A (evalPart e X.env) (λu s'=>∃ o H',Inv X pins σ H' s'/\IsPart u o/\Q o H') X.xe s
noncomputable def qW:TO:=λ_ H Q=>Q none H
noncomputable def u5 (t:TE):TO:=λσ H Q=>t σ H λx H1=>∃ i,x=.int i/\Q (some i) H1
section
variable {X:Cx} {e:Expr} {te:TE} {lo hi:Option Expr} {tl th:TO} {pos p2:Pos}
theorem rz:PO X none qW:=by
 intro pins s σ H Q I h
 rw [evalPart_none]
 exact wpAny_pure ⟨none,H,I,.none,h⟩
theorem qX (h:PE X e te):PO X (some e) (u5 te):=by
 intro pins s σ H Q I hw
 rw [evalPart_some]
 refine thn (h pins s σ H _ I hw) λu s1 ⟨x,H1,I1,r1,q1⟩=>?_
 obtain ⟨i,rfl,q⟩:=q1
 obtain ⟨t,rfl⟩:=r1
 exact ⟨some i,H1,I1,.int i t,q⟩
noncomputable def SlR (X:Cx) (r:V->Option Int->Option Int->Hp->VK->Prop):Prop:=
 ∀ (pins:List (Addr × Obj)) (s:Shared) (σ:St) (H:Hp) (x:V) (v vl vu:Value) (lo hi:Option Int) (sl:Addr) (Q:VK),Inv X pins σ H s->RelV x v->s.heap.IsSliceOf sl vl vu .none->IsPart vl lo->IsPart vu hi->r x lo hi H Q ->
   ∃ T id,typeLookup (.type T) "__getitem__" = pure (some (.builtin id))/\s.TypeIs v T/\wpAny (model X.prog X.w) X.A (getItem v (.ref sl)) (EP X pins σ Q) X.xe s
noncomputable def tSl (r:V->Option Int->Option Int->Hp->VK->Prop) (te:TE) (tl th:TO):TE:=λσ H Q=>te σ H λx H1=>tl σ H1 λl H2=>th σ H2 λu H3=>r x l u H3 Q
theorem kz {r:V->Option Int->Option Int->Hp->VK->Prop} (hr:SlR X r) (he:PE X e te) (hl:PO X lo tl) (hu:PO X hi th):PE X (.Subscript e (.Slice lo hi none p2) pos) (tSl r te tl th):=by
 intro pins s σ H Q I h
 refine Subscript_ (thn (he pins s σ H _ I h) λv s1 ⟨x,H1,I1,r1,q1⟩=>?_)
 refine wpAny_Slice (thn (hl pins s1 σ H1 _ I1 q1) λvl s2 ⟨l,H2,I2,pl,q2⟩=>thn (hu pins s2 σ H2 _ I2 q2) λvu s3 ⟨u,H3,I3,pu,q3⟩=>?_)
 rw [evalPart_none]
 refine wpAny_pure ?_
 have I4:Inv X pins σ H3 { s3 with heap:=s3.heap.push { cls:=.type "slice",data:=.fields #[vl,vu,.none] } }:=I3.kept (t':=s3.toks) λb ob q=>Heap.get?_push_of_some _ q
 obtain ⟨T,id,hT,ht,hg⟩:=hr pins { s3 with heap:=s3.heap.push { cls:=.type "slice",data:=.fields #[vl,vu,.none] } } σ H3 x v vl vu l u s3.heap.objs.size Q I4 r1 (Heap.IsSliceOf.new ..) pl pu q3
 show wpAny (model X.prog X.w) X.A (subscriptTail e (.Slice lo hi none p2) v (.ref s3.heap.objs.size)) (EP X pins σ Q) X.xe { s3 with heap:=s3.heap.push { cls:=.type "slice",data:=.fields #[vl,vu,.none] } }
 exact tail_any (ops:=[.ref s3.heap.objs.size,v]) ht hT hg (by with_unfolding_all rfl)
noncomputable def gq (xs:List V) (lo hi:Option Int):List V:=(xs.drop (HT.sIx xs.length 0 lo)).take (HT.sIx xs.length xs.length hi - HT.sIx xs.length 0 lo)
theorem fR (xs:List V) (lo hi:Option Int):(gq xs lo hi).length<=xs.length:=by
 unfold gq
 rw [List.length_take,List.length_drop]
 omega
noncomputable def vT (K:PySem.W.Frag):V->Option Int->Option Int->Hp->VK->Prop:=λx lo hi H Q=>∃ a xs,x=.ref a/\SqT K H a xs /\
 ¬ (HT.sIx xs.length 0 lo=0/\HT.sIx xs.length xs.length hi=xs.length)/\∀ p,H p=none->Q (.ref p) (upd H p (.tup (gq xs lo hi)))
theorem sJ:SlR X (vT X.K):=by
 intro pins s σ H x v vl vu lo hi sl Q I rx hs pl pu h
 obtain ⟨a,xs,rfl,hx,hw,q⟩:=h
 cases rx
 obtain ⟨its,r,ht,hz⟩:=I.tuple hx
 have hlen:its.toArray.size=xs.length:=by rw [List.size_toArray]; exact r.length.symm
 refine ⟨"tuple",_,PyProof.Rows.slot_tuple_getitem.lookup,ht.typeIs,?_⟩
 refine HT.e7 ht hs pl pu (by rw [hlen]; exact hw) ?_ (by rw [hlen]; exact hz)
 rw [hlen]
 refine ⟨.ref s.heap.objs.size,_,I.laid (t':=s.toks) (o:=.tup (gq xs lo hi)) (λb ob q=>Heap.get?_push_of_some _ q) (Nat.le_refl _) ?_,rfl,q _ (I.hok.fresh (Nat.le_refl _))⟩
 exact ⟨Nat.le_trans (fR xs lo hi) hz,_,(r.drop (HT.sIx xs.length 0 lo)).take (HT.sIx xs.length xs.length hi - HT.sIx xs.length 0 lo),IsTup.new _ _⟩
noncomputable def vM (K:PySem.W.Frag):R2:=λx y H Q=>∃ a b xs ys,x=.ref a/\y=.ref b/\SqT K H a xs/\SqT K H b ys/\xs ≠ []/\xs.length + ys.length<=sizeLine /\
 (ys=[]->Q (.ref a) H)/\(ys ≠ []->∀ p,H p=none->Q (.ref p) (upd H p (.tup (xs++ys))))
theorem Vals.jt {xs:List V} {us:List Value} (r:Vals xs us):us=[] ↔ xs=[]:=by
 cases r with
 | nil=>simp
 | cons _ _=>simp
theorem qx:OpR X (binaryOp .Add) (vM X.K):=by
 intro pins s σ H x y v u Q I rx ry h
 obtain ⟨a,b,xs,ys,rfl,rfl,ha,hb,hx,hz,q1,q2⟩:=h
 cases rx
 cases ry
 obtain ⟨its,r1,p1,_⟩:=I.tuple ha
 obtain ⟨its2,r2,p2,_⟩:=I.tuple hb
 refine HT.rg p1 p2 (λz=>hx (r1.jt.mp z)) (λz=>⟨.ref a,H,I,rfl,q1 (r2.jt.mp z)⟩) (λz=>?_) (by rw [<- r1.length,<- r2.length]; exact hz)
 refine ⟨.ref s.heap.objs.size,_,I.laid (t':=s.toks) (o:=.tup (xs++ys)) (λb ob q=>Heap.get?_push_of_some _ q) (Nat.le_refl _) ?_,rfl,q2 (λw=>z (r2.jt.mpr w)) _ (I.hok.fresh (Nat.le_refl _))⟩
 exact ⟨by rw [List.length_append]; exact hz,_,r1.append r2,IsTup.new _ _⟩
end
noncomputable def ixN (n:Nat) (i:Int):Option Nat:=if 0<=i then (if i < n then some i.toNat else none) else if -(n:Int)<=i then some (i + n).toNat else none
noncomputable def atI {α:Type} (xs:List α) (i:Int):Option α:=(ixN xs.length i).bind λj=>xs[j]?
theorem mS {n:Nat} {i:Int} {j:Nat} (h:ixN n i=some j):seqIndex? i n=some j/\j < n/\-(n:Int)<=i/\i < n:=by
 unfold ixN at h
 by_cases h0:0<=i
 · rw [if_pos h0] at h
   by_cases h1:i < n
   · rw [if_pos h1] at h
     have e:i.toNat=j:=Option.some.inj h
     exact ⟨by rw [seqIndex_of h0 h1,e],by omega,by omega,h1⟩
   · rw [if_neg h1] at h; cases h
 · rw [if_neg h0] at h
   by_cases h1:-(n:Int)<=i
   · rw [if_pos h1] at h
     have e:(i + n).toNat=j:=Option.some.inj h
     exact ⟨by rw [seqIndex_neg (by omega) h1,e],by omega,h1,by omega⟩
   · rw [if_neg h1] at h; cases h
theorem mF {α:Type} {xs:List α} {i:Int} {v:α} (h:atI xs i=some v):∃ j,seqIndex? i xs.length=some j/\xs[j]?=some v/\j < xs.length/\-(xs.length:Int)<=i/\i < xs.length:=by
 unfold atI at h
 cases e:ixN xs.length i with
 | none=>rw [e] at h; cases h
 | some j=>
   rw [e] at h
   obtain ⟨h1,h2,h3,h4⟩:=mS e
   exact ⟨j,h1,h,h2,h3,h4⟩
noncomputable def lY (b:Expr):Prop:=∀ o i,subscripted b false o i=operate [o,i] (getItem o i)
noncomputable def IxR (X:Cx) (r:R2):Prop:=
 ∀ (value slice:Expr) (pins:List (Addr × Obj)) (s:Shared) (σ:St) (H:Hp) (x y:V) (v u:Value) (Q:VK),Inv X pins σ H s->RelV x v->RelV y u->r x y H Q ->
   subscripted slice false v u=operate [v,u] (getItem v u)->wpAny (model X.prog X.w) X.A (subscriptTail value slice v u) (EP X pins σ Q) X.xe s
noncomputable def MtR (X:Cx) (id:String) (r:V->List V->Hp->VK->Prop):Prop:=
 ∀ (pins:List (Addr × Obj)) (s:Shared) (σ:St) (H:Hp) (x:V) (xs:List V) (v:Value) (us:List Value) (Q:VK),Inv X pins σ H s->RelV x v->Vals xs us->r x xs H Q ->
   wpAny (model X.prog X.w) X.A (call (.builtin id) (v :: us)) (EP X pins σ Q) X.xe s
section
variable {X:Cx} {a b:Expr} {ta tb:TE} {pos:Pos}
theorem vb {r:R2} (hr:IxR X r) (ha:PE X a ta) (hb:PE X b tb) (hs:lY b):PE X (.Subscript a b pos) (tOp r ta tb):=by
 intro pins s σ H Q I h
 exact Subscript_ (sG ha hb I h λv u s2 x y H2 I2 rx ry q=>hr a b pins s2 σ H2 x y v u Q I2 rx ry q (hs _ _))
noncomputable def wC (K:PySem.W.Frag):R2:=λx y H Q=>∃ p xs i v,x=.ref p/\y=.int i/\SqL K H p xs/\atI xs i=some v/\Q v H
noncomputable def wy (K:PySem.W.Frag):R2:=λx y H Q=>∃ p xs i v,x=.ref p/\y=.int i/\SqT K H p xs/\atI xs i=some v/\Q v H
theorem qm:IxR X (wC X.K):=by
 intro value slice pins s σ H x y v u Q I rx ry h hs
 obtain ⟨p,xs,i,z,rfl,rfl,hq,he,q⟩:=h
 cases rx
 obtain ⟨t,rfl⟩:=ry
 obtain ⟨its,r,pl,hz⟩:=I.list hq
 obtain ⟨j,h1,h2,h3,h4,h5⟩:=mF he
 obtain ⟨w,ew,rw'⟩:=r.get h2
 have hl:=r.length
 have hn:=i8
 have fin:EP X pins σ Q w s:=⟨z,H,I,rw',q⟩
 by_cases h0:0<=i
 · have hj:i.toNat=j:=by
     rw [seqIndex_of h0 h5] at h1
     exact Option.some.inj h1
   exact item_listR pl.isList h0 (by omega) (by rw [hj]; simpa using ew) fin hs
 · have hj:(i + (its.toArray.size:Int)).toNat=j:=by
     rw [seqIndex_neg (by omega) h4] at h1
     rw [List.size_toArray,<- hl]
     exact Option.some.inj h1
   exact subscriptTail_builtinR (x:=w) pl.isList.typeIs slot_list_getitem.lookup
     (wpAny_getItem_list_neg (Q:=λr s'=>r=w/\EP X pins σ Q r s') pl.isList (by omega) (by rw [List.size_toArray] <;> omega) (by omega) (by rw [hj]; simpa using ew) ⟨rfl,fin⟩) hs
theorem su:IxR X (wy X.K):=by
 intro value slice pins s σ H x y v u Q I rx ry h hs
 obtain ⟨p,xs,i,z,rfl,rfl,hq,he,q⟩:=h
 cases rx
 obtain ⟨t,rfl⟩:=ry
 obtain ⟨its,r,pl,hz⟩:=I.tuple hq
 obtain ⟨j,h1,h2,h3,h4,h5⟩:=mF he
 obtain ⟨w,ew,rw'⟩:=r.get h2
 have hl:=r.length
 have hn:=i8
 have fin:EP X pins σ Q w s:=⟨z,H,I,rw',q⟩
 exact subscriptTail_builtinR (x:=w) pl.typeIs slot_tuple_getitem.lookup
   (getItem_tuple (j:=j) (Q:=λr s'=>r=w/\EP X pins σ Q r s') pl (by omega) (by omega) (by rw [List.size_toArray,<- hl]; exact h1) (by simpa using ew) ⟨rfl,fin⟩) hs
theorem kZ (its:List Value) (n j:Nat) (u:Value):Obj.mapSeq (·.setIfInBounds j u) { cls:=.type "list",data:=.seq its.toArray n }={ cls:=.type "list",data:=.seq (its.set j u).toArray n }:=by
 simp [Obj.mapSeq]
theorem Inv.lst {pins:List (Addr × Obj)} {σ:St} {H:Hp} {s:Shared} {p:Addr} {xs:List V} (I:Inv X pins σ H s) (h:H p=some (.lst xs)) :
   ∃ (its:List Value) (n:Nat),Vals xs its/\s.heap.get? p=some { cls:=.type "list",data:=.seq its.toArray n }/\xs.length<=sizeLine:=by
 obtain ⟨z,its,n,r,e⟩:=I.hok p _ h
 exact ⟨its,n,r,e,z⟩
theorem Inv.sD {pins:List (Addr × Obj)} {σ:St} {H:Hp} {s:Shared} {p:Addr} {xs ys:List V} {its its':List Value} {n n':Nat} {f:Obj->Obj} (I:Inv X pins σ H s) (h:H p=some (.lst xs))
   (ho:s.heap.get? p=some { cls:=.type "list",data:=.seq its.toArray n }) (hf:f { cls:=.type "list",data:=.seq its.toArray n }={ cls:=.type "list",data:=.seq its'.toArray n' }) (r:Vals ys its') (hz:ys.length<=sizeLine) (t:Nat) :
   Inv X pins σ (upd H p (.lst ys)) { s with heap:=s.heap.update p f,toks:=t }:=by
 have e:(s.heap.update p f).get? p=some { cls:=.type "list",data:=.seq its'.toArray n' }:=by
   rw [Heap.get?_update_self f ho (by rw [hf] <;> rfl),hf]
 refine I.write (x:=p) (e:=p) (by rw [h]; trivial) (.inl rfl) (λb u hb q=>(Heap.get?_update_other _ _ (Ne.symm hb)).trans q) ⟨_,e⟩ ?_
 exact ⟨hz,its',n',r,e⟩
noncomputable def uN:V->V->V->Hp->(Hp->Prop)->Prop:=λo i v H Q=>∃ p xs k j,o=.ref p/\i=.int k/\H p=some (.lst xs)/\ixN xs.length k=some j/\Q (upd H p (.lst (xs.set j v)))
theorem set_list:uT X uN:=by
 intro pins s σ H o i v ov iv u Q I ro ri rv h
 obtain ⟨p,xs,k,j,rfl,rfl,hp,hj,q⟩:=h
 cases ro
 obtain ⟨t,rfl⟩:=ri
 obtain ⟨its,n,r,ho,hz⟩:=I.lst hp
 obtain ⟨h1,h2,h3,h4⟩:=mS hj
 have hl:=r.length
 have hn:=i8
 have I':Inv X pins σ (upd H p (.lst (xs.set j v))) { s with heap:=s.heap.update p (Obj.mapSeq (·.setIfInBounds j u)) }:=
   I.sD hp ho (kZ its n j u) (r.set rv j) (by rw [List.length_set]; exact hz) s.toks
 by_cases h0:0<=k
 · have hk:k.toNat=j:=by
     rw [seqIndex_of h0 h4] at h1
     exact Option.some.inj h1
   exact PySem.W.ki_setAt ho h0 (by omega) (by rw [List.size_toArray,<- hl]; exact h4) (by rw [hk]; exact ⟨_,I',q⟩)
 · have hk:(k + (its.toArray.size:Int)).toNat=j:=by
     rw [seqIndex_neg (by omega) h3] at h1
     rw [List.size_toArray,<- hl]
     exact Option.some.inj h1
   exact PySem.W.ki_setBack ho (by omega) (by rw [List.size_toArray,<- hl]; exact h3) (by omega) (by rw [hk]; exact ⟨_,I',q⟩)
theorem jB (lo hi:Option Int) (n:Nat):(sliceBounds lo hi none n).1=((HT.sIx n 0 lo:Nat):Int)/\(sliceBounds lo hi none n).2.1=((HT.sIx n n hi:Nat):Int)/\(sliceBounds lo hi none n).2.2=1:=by
 refine ⟨?_,?_,rfl⟩
 · cases lo with
   | none=>simp [sliceBounds,HT.sIx]
   | some i=>
     simp only [sliceBounds,HT.sIx,Option.getD_none,show (1:Int) > 0 by decide,if_true]
     by_cases h:i < 0
     · simp only [h,if_true] <;> omega
     · simp only [h,if_false] <;> omega
 · cases hi with
   | none=>simp [sliceBounds,HT.sIx]
   | some i=>
     simp only [sliceBounds,HT.sIx,Option.getD_none,show (1:Int) > 0 by decide,if_true]
     by_cases h:i < 0
     · simp only [h,if_true] <;> omega
     · simp only [h,if_false] <;> omega
theorem ij (its:List Value) (lo hi:Option Int):slicePick its.toArray lo hi none=((its.drop (HT.sIx its.length 0 lo)).take (HT.sIx its.length its.length hi - HT.sIx its.length 0 lo)).toArray:=by
 obtain ⟨h1,h2,h3⟩:=jB lo hi its.toArray.size
 unfold slicePick
 rw [h1,h2,h3]
 simp only [sliceRange_one,pick_run,List.size_toArray] <;> rfl
noncomputable def we (K:PySem.W.Frag):V->Option Int->Option Int->Hp->VK->Prop:=λx lo hi H Q=>∃ a xs,x=.ref a/\SqL K H a xs/\∀ p,H p=none->Q (.ref p) (upd H p (.lst (gq xs lo hi)))
theorem qC:SlR X (we X.K):=by
 intro pins s σ H x v vl vu lo hi sl Q I rx hs pl pu h
 obtain ⟨a,xs,rfl,hx,q⟩:=h
 cases rx
 obtain ⟨its,r,ht,hz⟩:=I.list hx
 have hlen:=r.length
 refine ⟨"list",_,slot_list_getitem.lookup,ht.isList.typeIs,?_⟩
 refine wpAny_getItem_list_slice ht.isList hs pl pu .none (by simp) ?_ (by rw [List.size_toArray] <;> omega)
 rw [ij,<- hlen]
 refine ⟨.ref s.heap.objs.size,_,I.laid (t':=s.toks) (o:=.lst (gq xs lo hi)) (λb ob q=>Heap.get?_push_of_some _ q) (Nat.le_refl _) ?_,rfl,q _ (I.hok.fresh (Nat.le_refl _))⟩
 exact ⟨Nat.le_trans (fR xs lo hi) hz,_,0,(r.drop (HT.sIx xs.length 0 lo)).take (HT.sIx xs.length xs.length hi - HT.sIx xs.length 0 lo),Heap.get?_push_size _ rfl⟩
theorem eJ:cF X (.builtin "len") (λxs H Q=>∃ p ys,xs=[.ref p]/\(SqL X.K H p ys\/SqT X.K H p ys)/\Q (.int ys.length) H):=by
 intro pins s σ H xs us Q I r h
 obtain ⟨p,ys,rfl,hq,q⟩:=h
 obtain ⟨u,rfl,rx⟩:=vals1 r
 cases rx
 have hn:=i8
 rcases hq with hq | hq
 · obtain ⟨its,r',pl,hz⟩:=I.list hq
   have hlen:=r'.length
   exact Calls.call_len_list pl.isList (by simp only [List.size_toArray] <;> omega) ⟨.int ys.length,H,I.tok _,⟨s.toks + 1,by rw [List.size_toArray,hlen]⟩,q⟩
 · obtain ⟨its,r',pl,hz⟩:=I.tuple hq
   have hlen:=r'.length
   exact len_tuple pl (by simp only [List.size_toArray] <;> omega) ⟨.int ys.length,H,I.tok _,⟨s.toks + 1,by rw [List.size_toArray,hlen]⟩,q⟩
theorem jJ:cF X (.type "list") (λxs H Q=>∃ p ys,xs=[.ref p]/\(SqL X.K H p ys\/SqT X.K H p ys)/\∀ l,H l=none->Q (.ref l) (upd H l (.lst ys))):=by
 intro pins s σ H xs us Q I r h
 obtain ⟨p,ys,rfl,hq,q⟩:=h
 obtain ⟨u,rfl,rx⟩:=vals1 r
 cases rx
 have fin:∀ (its:List Value),Vals ys its->ys.length<=sizeLine->∀ (h':Heap) (c':Nat),(∀ b o',s.heap.get? b=some o'->h'.get? b=some o') ->
     h'.get? s.heap.objs.size=some { cls:=.type "list",dict:=none,data:=.seq its.toArray c',slots:=#[] }->EP X pins σ Q (.ref s.heap.objs.size) { s with heap:=h' }:=λits r' hz h' c' kp e=>
   ⟨.ref s.heap.objs.size,_,I.laid (t':=s.toks) kp (Nat.le_refl _) (show bw X.prog X.w _ h' _ (.lst ys) from ⟨hz,its,c',r',e⟩),rfl,q _ (I.hok.fresh (Nat.le_refl _))⟩
 rcases hq with hq | hq
 · obtain ⟨its,r',pl,hz⟩:=I.list hq
   have hlen:=r'.length
   obtain ⟨o,ho,hc,n,hd⟩:=pl.isList
   exact call_list_seq p (.inl rfl) ho hc hd (λh' c' kp e=>fin its r' hz h' c' kp e) (by simp only [List.size_toArray] <;> omega)
 · obtain ⟨its,r',pl,hz⟩:=I.tuple hq
   have hlen:=r'.length
   obtain ⟨o,ho,hc,n,hd⟩:=pl
   exact call_list_seq p (.inr rfl) ho hc hd (λh' c' kp e=>fin its r' hz h' c' kp e) (by simp only [List.size_toArray] <;> omega)
noncomputable def tyV (K:PySem.W.Frag) (T:String) (x:V) (H:Hp):Prop:=match x with
 | .str _=>T = "str"
 | .int _=>T = "int"
 | .ref p=>(T = "list" /\ ∃ xs,SqL K H p xs)\/(T = "tuple" /\ ∃ o,K.lookup p=some o/\o.cls=.type "tuple" /\ o.dict=none) \/
     (T = "dict" /\ ((∃ kvs,H p=some (.dK kvs))\/∃ kvs,H p=some (.dT kvs)))\/(T = "set" /\ ∃ S n,H p=some (.set S n))
 | _=>False
theorem uy {pins:List (Addr × Obj)} {σ:St} {H:Hp} {s:Shared} {T:String} {x:V} {v:Value} (I:Inv X pins σ H s) (r:RelV x v) (ty:tyV X.K T x H) :
   s.TypeIs v T/\∀ a,v=.ref a->∃ ob,s.heap.get? a=some ob/\ob.dict=none:=by
 cases x with
 | str z=>
   obtain ⟨t,rfl⟩:=r
   cases (show T = "str" from ty)
   exact ⟨typeIs_str s z t,λ_ e=>nomatch e⟩
 | int i=>
   obtain ⟨t,rfl⟩:=r
   cases (show T = "int" from ty)
   exact ⟨typeIs_int s i t,λ_ e=>nomatch e⟩
 | ref p=>
   cases r
   rcases ty with ⟨rfl,xs,hq⟩ | ⟨rfl,o,hk,hc,hd⟩ | ⟨rfl,hk⟩ | ⟨rfl,S,n,hk⟩
   · obtain ⟨its,_,pl,_⟩:=I.list hq
     refine ⟨pl.isList.typeIs,λa e=>?_⟩
     cases e
     obtain ⟨o,n,e,c,hd,_⟩:=pl
     exact ⟨o,e,hd⟩
   · refine ⟨⟨o,I.kIn p o hk,hc⟩,λa e=>?_⟩
     cases e
     exact ⟨o,I.kIn _ o hk,hd⟩
   · have z:∃ o,s.heap.get? p=some o/\o.ExactDict:=by
       rcases hk with ⟨kvs,hk⟩ | ⟨kvs,hk⟩
       · obtain ⟨_,_,_,_,o,_,_,e,ex,_⟩:=I.hok p _ hk
         exact ⟨o,e,ex⟩
       · obtain ⟨_,_,_,_,o,_,_,e,ex,_⟩:=I.hok p _ hk
         exact ⟨o,e,ex⟩
     obtain ⟨o,e,ex⟩:=z
     refine ⟨⟨o,e,ex.1⟩,λa e2=>?_⟩
     cases e2
     exact ⟨o,e,ex.2.1⟩
   · obtain ⟨o,_,_,_,e,ex,_⟩:=I.hok p _ hk
     refine ⟨⟨o,e,ex.1⟩,λa e2=>?_⟩
     cases e2
     exact ⟨o,e,ex.2.1⟩
 | _=>exact False.elim ty
noncomputable def tBM (K:PySem.W.Frag) (T:String) (r:V->List V->Hp->VK->Prop) (to:TE) (t:TA):TE:=λσ H Q=>to σ H λx H1=>tyV K T x H1/\t σ H1 λxs H2=>r x xs H2 Q
variable {o e:Expr} {es:List Expr} {to:TE} {t:TA} {name:Str} {apos cpos:Pos} {T id:String} {r:V->List V->Hp->VK->Prop}
theorem se (pa:PlainAttrs T) (slot:Slot T name id) (hty:typeOf (.builtin id)=pure (.type "method_descriptor")) (hm:MtR X id r) (ho:PE X o to) (ha:PA X (e :: es) t)
   (hbase:attributeBase o name X.env (eval o X.env)=eval o X.env:=by rfl)
   (hfew:((backTo cpos (starEach (e :: es) X.env)).all (λx=>!x.1) && (backToKw cpos (keywordEach [] X.env)).all (λx=>x.1.isSome)
     && decide ((e :: es).length + ([]:List Keyword).length + (if ([]:List Keyword).isEmpty then 0 else 1) < 30))=true:=by rfl)
   (hline:(apos.endLine == cpos.line)=true:=by rfl) (hs:starEach (e :: es) X.env=(false,eval e X.env) :: starEach es X.env:=by rfl) (hplain:(backTo cpos (starEach es X.env)).any (·.1)=false:=by rfl) :
   PE X (.Call (.Attribute o name apos) (e :: es) [] cpos) (tBM X.K T r to t):=by
 intro pins s σ H Q I h
 refine wpAny_Call_method_late hbase hfew hline rfl (thn (ho pins s σ H _ I h) λv s1 ⟨x,H1,I1,r1,ty,q1⟩=>?_)
 obtain ⟨h1,h2⟩:=uy I1 r1 ty
 refine ⟨T,id,pa,slot,hty,h1,h2,?_⟩
 have hA:=ha cpos pins s1 σ H1 _ I1 q1
 rw [hs] at hA ⊢
 refine Calls.callWith_builtin (by show (false || (backTo cpos (starEach es X.env)).any (·.1))=false; rw [hplain] <;> rfl) (Calls.evalArgs_plain ?_)
 exact thn hA λus s2 ⟨vs,H2,I2,r2,q2⟩=>hm pins s2 σ H2 x vs v us Q I2 r1 r2 q2
end
noncomputable def MtM (X:Cx) (id:String) (r:V->List V->Hp->VK->Prop):Prop:=
 ∀ (pins:List (Addr × Obj)) (s:Shared) (σ:St) (H:Hp) (x:V) (xs:List V) (v:Value) (us:List Value) (Q:VK),Inv X pins σ H s->RelV x v->Vals xs us->r x xs H Q ->
   wpAny (model X.prog X.w) X.A (call (.builtin id) (v :: us)) (EP X pins σ Q) X.xe s
theorem Vals.one:∀ {x:V} {us:List Value},Vals [x] us->∃ u,us=[u]/\RelV x u
 | _,_,.cons r .nil=>⟨_,rfl,r⟩
section
variable {X:Cx} {pins:List (Addr × Obj)} {σ:St} {H:Hp} {s:Shared} {l b:Addr} {xs ys zs:List V}
theorem Inv.vz {its its':List Value} {n:Nat} {f:Array Value->Array Value} {t':Nat} (I:Inv X pins σ H s) (hH:H l=some (.lst xs))
   (e:s.heap.get? l=some { cls:=.type "list",data:=.seq its.toArray n }) (hf:f its.toArray=its'.toArray) (hv:Vals ys its') (hz:ys.length<=sizeLine) :
   Inv X pins σ (upd H l (.lst ys)) { s with heap:=s.heap.update l (Obj.mapSeq f),toks:=t' }:=by
 have q:=PySem.IsL.update e f
 rw [hf] at q
 refine I.write (x:=l) (e:=l) (by rw [hH]; exact trivial) (.inl rfl) (λb' u hb hu=>(Heap.get?_update_other s.heap (Obj.mapSeq f) (Ne.symm hb)).trans hu) ⟨_,q⟩ ?_
 exact ⟨hz,its',_,hv,q⟩
theorem Inv.wk {its:List Value} {t':Nat} (I:Inv X pins σ H s) (hv:Vals ys its) (hz:ys.length<=sizeLine) :
   Inv X pins σ (upd H s.heap.objs.size (.lst ys)) { s with heap:=s.heap.push { cls:=.type "list",data:=.seq its.toArray },toks:=t' }:=
 I.laid (λ_ _ q=>Heap.get?_push_of_some _ q) (Nat.le_refl _) ⟨hz,its,0,hv,Heap.get?_push_size _ rfl⟩
theorem Inv.fresh (I:Inv X pins σ H s):H s.heap.objs.size=none:=I.hok.fresh (Nat.le_refl _)
theorem Inv.tM (I:Inv X pins σ H s) (hH:H l=some (.lst xs)):xs.length<=sizeLine/\∃ (its:List Value) (n:Nat),Vals xs its/\xs.length=its.length/\s.heap.get? l=some { cls:=.type "list",data:=.seq its.toArray n }:=by
 obtain ⟨z,its,n,r,e⟩:=I.hok l _ hH
 exact ⟨z,its,n,r,r.length,e⟩
theorem pR {n:Nat} (h:n<=sizeLine):Builtin.List.listTooLong n=false:=by
 unfold Builtin.List.listTooLong
 exact decide_eq_false (by omega)
end
section
variable {X:Cx}
noncomputable def qf:V->List V->Hp->VK->Prop:=λx vs H Q=>∃ l xs y,x=.ref l/\vs=[y]/\H l=some (.lst xs)/\xs.length < sizeLine/\Q .non (upd H l (.lst (xs++[y])))
theorem fK:MtM X "list.append" qf:=by
 intro pins s σ H x vs v us Q I rx rv h
 obtain ⟨l,xs,y,rfl,rfl,hH,hz,q⟩:=h
 cases rx
 obtain ⟨u,rfl,ru⟩:=rv.one
 obtain ⟨z,its,n,r,hl,e⟩:=I.tM hH
 refine call_meets F.slot_list_append ⟨_,e,rfl⟩ F.entry_list_append (F.args_list_append_2 _ _) (PySem.list_append l its.toArray n u (by rw [List.size_toArray]; omega)) ⟨e,?_⟩
 refine ⟨.non,_,I.vz (its':=its++[u]) hH e (by simp) (r.append (.cons ru .nil)) ?_,rfl,q⟩
 rw [List.length_append,List.length_singleton]
 omega
noncomputable def qD:V->List V->Hp->VK->Prop:=λx vs H Q=>∃ l b xs zs,x=.ref l/\vs=[.ref b]/\H l=some (.lst xs)/\H b=some (.lst zs)/\xs.length + zs.length<=sizeLine/\Q .non (upd H l (.lst (xs++zs)))
theorem m3:MtM X "list.extend" qD:=by
 intro pins s σ H x vs v us Q I rx rv h
 obtain ⟨l,b,xs,zs,rfl,rfl,hH,hB,hz,q⟩:=h
 cases rx
 obtain ⟨u,rfl,ru⟩:=rv.one
 cases ru
 obtain ⟨z,its,n,r,hl,e⟩:=I.tM hH
 obtain ⟨z2,its2,n2,r2,hl2,e2⟩:=I.tM hB
 have hsz:its.toArray.size + its2.toArray.size<=sizeLine:=by rw [List.size_toArray,List.size_toArray]; omega
 have hlong:¬ (!its.toArray.isEmpty && Builtin.List.listTooLong (its.toArray.size + its2.toArray.size))=true:=by
   rw [pR hsz,Bool.and_false]
   exact Bool.false_ne_true
 refine call_meets F.slot_list_extend ⟨_,e,rfl⟩ F.entry_list_extend (F.args_list_extend_2 _ _)
   (AutoSeq1.list_extend_list_list_0 l its.toArray n b its2.toArray n2 hlong (by rw [List.size_toArray]; omega) (by omega)) ⟨e,e2,?_⟩
 refine ⟨.non,_,I.vz (its':=its++its2) hH e (by simp) (r.append r2) ?_,rfl,q⟩
 rw [List.length_append]
 omega
end
section
variable {prog:Program} {w:World} {A:Around} {E:Value->Shared->Prop} {s:Shared}
end
section
variable {X:Cx}
end
end L2
namespace Att
open PySem PySem.W PySem.Calls PyProof.Rows
theorem fT {P:Params} {h:Heap}:∀ (ns:List Int) (vs:List Value),WellAll P h vs (ns.map WData.int)->IntsAre vs ns:=by
 intro ns
 induction ns with
 | nil=>
   intro vs w
   rw [List.map_nil] at w
   cases w
   exact .nil
 | cons n ns ih=>
   intro vs w
   rw [List.map_cons] at w
   cases w with
   | cons a b=>
     cases a
     exact .cons _ _ (ih _ b)
theorem nc {l:OpenLaw} {n:Nat} (hn:l.most=some n) {P:Params} {h:Heap} {args:List WData} {vals:List Value}
   (hpre:l.row.toRowW.claim.pre args=true) (hwl:WellAll P h vals args) :
   ∃ a vs ns,vals=[Value.ref a]/\args=[WData.list (ns.map WData.int)]/\h.get? a=some { cls:=.type "list",data:=.seq vs.toArray }/\IntsAre vs ns/\ns.length<=n:=by
 have hsh:WShape.hasAll [] args [.list .int]=true:=(pre_splitW hpre).1
 have hc:l.pre.holds [] { args:=args }=true:=(pre_splitW hpre).2
 obtain ⟨d,r,rfl,h1,h2⟩:=hasAllW_cons hsh
 obtain rfl:=hasAllW_nil h2
 obtain ⟨xs,rfl,h3⟩:=hasW_list h1
 obtain ⟨ns,rfl⟩:=items_int h3
 have hlen:ns.length<=n:=by
   unfold OpenLaw.pre at hc
   have h4:(WTm.not (.lt (.lit (.int (n:Int))) (.len (.arg 0)))).holds [] { args:=[.list (ns.map .int)] }=true:=by
     have h4:=(holds_andW hc).1
     rw [hn] at h4
     exact h4
   have h5:=condW_of h4 (w_not (w_lt w_lit (w_len_list (w_arg rfl))))
   rw [List.length_map] at h5
   refine Nat.le_of_not_lt λq=>?_
   have q':(n:Int) < ((ns.length:Nat):Int):=by omega
   first
     | (rw [decide_eq_true q'] at h5; exact absurd h5 (by decide))
     | (simp at h5; omega)
 cases hwl with
 | cons w1 w2=>
   cases w2
   cases w1 with
   | list ho hall=>exact ⟨_,_,ns,rfl,rfl,ho,fT ns _ hall,hlen⟩
theorem nW (l:OpenLaw) (args:List WData):l.row.toRowW.claim.post args (.bool true) args=true:=
 postW_of (r:=l.row.toRowW) (X:=(true == true))
   (show WShape.has [] (.bool true) .bool=true by first | rfl | decide | simp [WShape.has,WShape.arms,WShape.armsAll])
   (show (WTm.eq .res (.lit (.bool true))).value [] { args:=args,res:=some (.bool true),after:=args }=some (.bool (true == true)) from w_eq_bool (w_res rfl) w_lit) rfl
theorem kb {l:OpenLaw} {n:Nat} {q:Program} {loose:List Str} {XP:(Str->Option Value)->Heap->Prop} {YP:World->Heap->Prop} {d:DefRec}
   (hn:l.most=some n) (hdf:d.params.defaults=[])
   (call:∀ (w:World) (s₀ s₁:Shared) (mg mb:Str->Option Value) (fa:Addr) (o:Obj) (pm cd doc:Value) (a:Addr) (vs:List Value) (ns:List Int),
     Ground q loose [] XP w s₀ mg mb s₁.heap->YP w s₁.heap ->
     s₁.heap.get? fa=some o->o.data=.func (docDef d.name d.params d.body d.scope pm cd doc)->s₁.heap.CodeRec cd d.name->mg d.name=some (.ref fa) ->
     s₁.heap.get? a=some { cls:=.type "list",data:=.seq vs.toArray }->IntsAre vs ns->ns.length<=n->s₁.gens=#[] ->
     codeAny (model l.prog w) callerA (.call (.ref fa) ⟨[.ref a],[]⟩) (λr s'=>r=.ok (.ret (.bool true))/\OldK s₁.heap s'.heap/\s'.os=s₁.os/\AllBare s'.gens) s₁) :
   WalkO q loose XP YP l.row.toRowW d [] (λf vs=>PySem.call f vs):=by
 intro w s₀ s₁ mg mb G Y fa o pm cd doc dV kV ho hd hcd hD hmg hg args vals as hpre hlay hrd hwl hlo
 obtain rfl:dV=.none:=Dflts.none hD hdf
 obtain rfl:kV=.none:=Dflts.noKw hD
 obtain ⟨a,vs,ns,rfl,rfl,hobj,hints,hlen⟩:=nc hn hpre hwl
 refine enter_call (codeAny_mono (call w s₀ s₁ mg mb fa o pm cd doc a vs ns G Y ho (fd_plain hd) hcd hmg hobj hints hlen hg) λr s' hq=>?_)
 obtain ⟨rfl,h2,h3,h4⟩:=hq
 exact ⟨.inl ⟨.bool true,.bool true,[],rfl,λ_=>rfl,.bool true,nW l _,λ_=>⟨List.Pairwise.nil,λ_ hm=>(nomatch hm)⟩⟩,h2,h3,h4⟩
section
variable {prog:Program} {w:World} {A:Around} {E:Value->Shared->Prop} {s:Shared} {K:Frag}
end
end Att
namespace L2
open PySem PySem.Spec PyProof.Rows
theorem iK:∀ {vs:List Value} {ns:List Int},IntsAre vs ns->Vals (ns.map V.int) vs
 | _,_,.nil=>.nil
 | _,_,.cons n t h=>.cons ⟨t,rfl⟩ (iK h)
noncomputable def sX (H:Hp):Prop:=∀ b,H b=none\/∃ o xs,H b=some (.frz o (.lst xs))
theorem pg {P:Program} {w:World} {K:PySem.W.Frag} {mg mb:Str->Option Value} {CX:CXT} {k:Nat} {fa a:Addr} {fd:FuncData} {x:Str} {sp:Sp} {s₁:Shared} {vs:List Value} {ns:List Int}
   (KX:K.In s₁.heap) (hns:s₁.heap.Ns mainGlobals mg) (hb:s₁.heap.Ns builtinsNs mb) (hbb:∀ x:Str,x ≠ "__name__" -> mb x=bootBuiltins x) (hlim:s₁.heap.NoLimit) (hg:s₁.gens=#[])
   (ha:s₁.heap.get? a=some { cls:=.type "list",data:=.seq vs.toArray }) (hi:IntsAre vs ns) (hl:ns.length<=sizeLine) (hr:de k callerA)
   (F:∀ base:Heap,K.In base->base.Ns mainGlobals mg->aN P w K mg base CX k fa fd [x] sp) (hbind:∀ (s:Shared) (u:Value),BindsTo s fd ⟨[u],[]⟩ [(x,u)])
   (hsp:∀ H:Hp,sX H->SqL K H a (ns.map V.int)->sp [.ref a] H (λv _=>v=.bl true) λ_ _ _=>False)
   (hCX:∀ H e s',CX [] H s₁ (λ_ _ _=>False) e s'->False) :
   codeAny (model P w) callerA (.call (.ref fa) ⟨[.ref a],[]⟩) (λr s'=>r=.ok (.ret (.bool true))/\OldK s₁.heap s'.heap/\s'.os=s₁.os/\AllBare s'.gens) s₁:=by
 have rv:=iK hi
 have lenV:=hi.length
 have core:∀ H:Hp,sX H->SqL K H a (ns.map V.int)->HOk P w H s₁.heap->(∀ b,H b ≠ none->b=a)->(H a ≠ none->K.lookup a=none) ->
     codeAny (model P w) callerA (.call (.ref fa) ⟨[.ref a],[]⟩) (λr s'=>r=.ok (.ret (.bool true))/\OldK s₁.heap s'.heap/\s'.os=s₁.os/\AllBare s'.gens) s₁:=by
   intro H hO hS hok hA hK
   have base_of:∀ {b:Addr} {o:Obj},s₁.heap.get? b=some o->H b=none->(i5 s₁.heap H).get? b=some o:=λe n=>pU e n
   have noA:∀ {b:Addr} {o:Obj} {es:Array DictEntry} {ep:Nat},s₁.heap.get? b=some o->o.data=.dict es ep->H b=none:=λ{b o es ep} e d=>by
     cases q:H b with
     | none=>rfl
     | some u=>
       have e':b=a:=hA b (by rw [q]; simp)
       subst e'
       rw [ha] at e; cases e
       have d':Data.seq vs.toArray _=Data.dict es ep:=d
       cases d'
   have nsK:∀ {b:Addr} {m:Str->Option Value},s₁.heap.Ns b m->(i5 s₁.heap H).Ns b m:=λ{b m} ⟨o,es,ep,e,d,r⟩=>⟨o,es,ep,base_of e (noA e d),d,r⟩
   have hKb:K.In (i5 s₁.heap H):=λb o e=>base_of (KX b o e) (by
     cases q:H b with
     | none=>rfl
     | some u=>
       have e':b=a:=hA b (by rw [q]; simp)
       subst e'
       rw [hK (by rw [q]; simp)] at e; cases e)
   have hM:Mod K mg (i5 s₁.heap H):=⟨hKb,nsK hns,⟨mb,nsK hb,hbb⟩,let ⟨mc,h1,h2⟩:=hlim; ⟨mc,nsK h1,h2⟩⟩
   have e0:rE P w K mg (i5 s₁.heap H) callerA [] s₁ H:=⟨rfl,hM,λb o e=>qY e,Nat.le_of_eq (n5 _ _),trivial,λb hb=>absurd (show b ∈ ([]:List Addr) from hb) (by simp),hok,.of_eq hg⟩
   refine codeAny_mono ((F _ hKb (nsK hns)).run callerA [] s₁ H ⟨[.ref a],[]⟩ [.ref a] [.ref a] _ _ hr e0 (hbind s₁ (.ref a)) (.cons rfl .nil) (hsp H hO hS)) λr s' h=>?_
   cases r with
   | error e=>exact (hCX H e s' h).elim
   | ok fl=>
     cases fl with
     | next=>exact False.elim h
     | brk=>exact False.elim h
     | cont=>exact False.elim h
     | ret u=>
       obtain ⟨v,H',os,bare,un,hok',r',q⟩:=h
       have q':v=.bl true:=q
       subst q'
       obtain rfl:u=Value.bool true:=r'
       refine ⟨rfl,OldK.of_keep λb o e=>?_,os,bare⟩
       cases q:H b with
       | none=>exact un.keep b o e q (by intro z; exact absurd (show b ∈ ([]:List Addr) from z) (by simp)) (by simp)
       | some u=>
         rcases hO b with z | ⟨ob,xs,z⟩
         · rw [q] at z; cases z
         · have z2:=un.frzs b ob _ z
           obtain ⟨e1,_⟩:=hok b _ z
           obtain ⟨e2,_⟩:=hok' b _ z2
           rw [e] at e1; cases e1
           exact e2
 cases hk:K.lookup a with
 | some o=>
   have e:=KX a o hk
   rw [ha] at e
   cases e
   refine core (λ_=>none) (λ_=>.inl rfl) (.inr ⟨_,vs.toArray,_,hk,rfl,rfl,rfl,by rw [List.size_toArray,lenV]; exact hl,by simpa using rv⟩) (λb u z=>by have z':(none:Option HO)=some u:=z; cases z') (λb z=>absurd rfl z) λz=>absurd rfl z
 | none=>
   refine core (λb=>if b=a then some (.frz { cls:=.type "list",data:=.seq vs.toArray } (.lst (ns.map V.int))) else none) (λb=>?_) (.inl (.inr ⟨{ cls:=.type "list",data:=.seq vs.toArray },if_pos rfl⟩)) (λb u z=>?_) (λb z=>?_) λ_=>hk
   · by_cases hb:b=a
     · exact .inr ⟨_,_,if_pos hb⟩
     · exact .inl (if_neg hb)
   · by_cases hb:b=a
     · have z':=(if_pos hb).symm.trans z
       cases z'
       subst hb
       exact ⟨ha,by rw [List.length_map]; exact hl,vs,_,rv,ha⟩
     · have z':=(if_neg hb).symm.trans z
       cases z'
   · by_cases hb:b=a
     · exact hb
     · exact absurd (if_neg hb) z
theorem rd {l:PySem.W.OpenLaw} {n k:Nat} {q:Program} {loose:List Str} {XP:(Str->Option Value)->Heap->Prop} {YP:World->Heap->Prop} {d:DefRec} {K:Params->PySem.W.Frag} {CX:World->CXT} {sp:World->Sp} {x:Str}
   (hn:l.most=some n) (hn2:n<=sizeLine) (hdf:d.params.defaults=[]) (hr:de k callerA)
   (hY:∀ (w:World) (h:Heap),YP w h->(K w.params).In h)
   (F:∀ (w:World) (mg:Str->Option Value) (fa:Addr) (h:Heap),(K w.params).In h->h.Ns mainGlobals mg->mg d.name=some (.ref fa) ->
     ∃ fd:FuncData,(∀ (s:Shared) (u:Value),BindsTo s fd ⟨[u],[]⟩ [(x,u)]) /\
       ∀ base:Heap,(K w.params).In base->base.Ns mainGlobals mg->aN l.prog w (K w.params) mg base (CX w) k fa fd [x] (sp w))
   (hsp:∀ (w:World) (H:Hp) (a:Addr) (ns:List Int),ns.length<=n->sX H->SqL (K w.params) H a (ns.map V.int)->sp w [.ref a] H (λv _=>v=.bl true) λ_ _ _=>False)
   (hCX:∀ (w:World) (H:Hp) (s:Shared) (e:Value) (s':Shared),CX w [] H s (λ_ _ _=>False) e s'->False) :
   PySem.W.WalkO q loose XP YP l.row.toRowW d [] (λf vs=>PySem.call f vs):=by
 refine Att.kb hn hdf λw s₀ s₁ mg mb fa o pm cd doc a vs ns G Y ho hd hcd hmg hobj hints hlen hg=>?_
 have KX:=hY w _ Y
 obtain ⟨fd,hb,hF⟩:=F w mg fa _ KX G.T.g hmg
 exact pg KX G.T.g G.T.b G.T.builtins G.T.nolimit hg hobj hints (Nat.le_trans hlen hn2) hr hF hb (λH hO hS=>hsp w H a ns hlen hO hS) λH e s'=>hCX w H s₁ e s'
noncomputable def bH (s:Stmt):Arguments:=match s with
 | .FunctionDef _ a _ _ _ _ _ _ _ _=>a
 | _=>{ posonlyargs:=[],args:=[],vararg:=none,kwonlyargs:=[],kw_defaults:=[],kwarg:=none,defaults:=[] }
noncomputable def bh (s:Stmt):List Stmt:=match s with
 | .FunctionDef _ _ b _ _ _ _ _ _ _=>b
 | _=>[]
noncomputable def ag (s:Stmt):Scope:=match s with
 | .FunctionDef _ _ _ _ _ _ sc _ _ _=>sc
 | _=>{ kind:=.function,names:=[],isGenerator:=false,isCoroutine:=false }
noncomputable abbrev CX0:CXT:=λ_ _ _ _ _ _=>False
noncomputable abbrev E0:XK:=λ_ _ _=>False
theorem vh {X:Cx}:Passes CX0 X E0:=λ_ _ _ _ _ _ _ h=>h.elim
structure Fun (K:PySem.W.Frag) (x qual:Str) (st:Stmt) (f:Addr) (fd:FuncData):Prop where
 ex:∃ (oc:Value) (od:Option Addr) (dV kV doc pm:Value) (an:Option Addr) (cdv ct:Value) (osl:Array (Option Value)),
   fd=PySem.W.fnOf x qual (bH st) (bh st) (ag st) dV kV doc pm an cdv ct/\K.lookup f=some ⟨oc,od,.func fd,osl⟩/\PySem.W.codeIn K cdv qual=true
 kp:PySem.W.keepIn K (.ref f)=true
section
variable {P:Program} {w:World} {K:PySem.W.Frag} {mg:Str->Option Value} {base:Heap}
theorem Fun.ok {x qual:Str} {st:Stmt} {f:Addr} {fd:FuncData} {N ps:List Str} {k:Nat} {sp:Sp} (F:Fun K x qual st f fd) (S:au N ps (ag st)) (len:∀ vs H Q E,sp vs H Q E->vs.length=ps.length)
   (hbody:∀ (cdv:Value) (A:Around) (outer:List Env) (s:Shared) (H:Hp) (vs:List V) (Q:VK) (E:XK),de k (A.deeper (envOfC qual (ag st) s.heap.objs.size f cdv))->sp vs H Q E ->
     ∃ t,PSs (lE CX0 P w K mg base N qual (ag st) f cdv A outer s H E).nox (bh st) t/\t { nx:=λ_ H'=>Q .non H',rt:=Q } (start N vs) H):aN P w K mg base CX0 (k + 1) f fd ps sp:=by
 obtain ⟨oc,od,dV,kV,doc,pm,an,cdv,ct,osl,rfl,lk,hcd⟩:=F.ex
 refine uJ lk hcd S len λA outer s H vs Q E hr hsp=>?_
 obtain ⟨t,h,q⟩:=hbody cdv A outer s H vs Q E hr hsp
 exact ⟨t,h.nox,q⟩
theorem Fun.binds {x qual:Str} {st:Stmt} {f:Addr} {fd:FuncData} {ps:List Str} (_:Fun K x qual st f fd) (h:∀ us:List Value,us.length=ps.length->bindArgs fd ⟨us,[]⟩=pure (ps.zip us)):Binds K fd ps []:=.all h
theorem lz {x qual:Str} {st:Stmt} {f:Addr} {oc:Value} {od an:Option Addr} {osl:Array (Option Value)} {dV kV doc pm cdv ct:Value} (l:K.lookup f=some ⟨oc,od,.func (PySem.W.fnOf x qual (bH st) (bh st) (ag st) dV kV doc pm an cdv ct),osl⟩)
   (c:PySem.W.codeIn K cdv qual=true) (k:PySem.W.keepIn K (.ref f)=true):Fun K x qual st f (PySem.W.fnOf x qual (bH st) (bh st) (ag st) dV kV doc pm an cdv ct):=⟨⟨oc,od,dV,kV,doc,pm,an,cdv,ct,osl,rfl,l,c⟩,k⟩
end
theorem iZ {n:Nat} (h:n<=1000):n < sizeLine:=Nat.lt_of_le_of_lt h (by decide)
section
variable {X:Cx}
end
theorem nk {A B:Prop} (h:B):if false=true then A else B:=by
 rw [if_neg Bool.false_ne_true]
 exact h
theorem nR {A B:Prop} (h:A):if true=true then A else B:=by
 rw [if_pos rfl]
 exact h
noncomputable def aq (H H':Hp):Prop:=∀ b o,H b=some o->H' b=some o
theorem aq.refl (H:Hp):aq H H:=λ_ _ h=>h
theorem aq.trans {H H1 H2:Hp} (a:aq H H1) (b:aq H1 H2):aq H H2:=λc o h=>b c o (a c o h)
theorem aq.free {H H':Hp} (e:aq H H') {l:Addr} (h:H' l=Option.none):H l=Option.none:=by
 cases q:H l with
 | none=>rfl
 | some o=>
   rw [e l o q] at h
   cases h
theorem aq.seq {K:PySem.W.Frag} {H H':Hp} {a:Addr} {xs:List V} (e:aq H H') (h:SqL K H a xs):SqL K H' a xs:=by
 rcases h with (h | ⟨o,h⟩) | h
 · exact .inl (.inl (e _ _ h))
 · exact .inl (.inr ⟨o,e _ _ h⟩)
 · exact .inr h
end L2
set_option linter.all false
set_option maxRecDepth 100000
namespace Hx
open PySem PySem.Spec PyProof.Rows
section
variable {M:Model} {A:Around} {E:Value->Shared->Prop} {s:Shared}
end
end Hx
namespace Hx
open PySem PySem.Spec PySem.Calls PyProof.Rows PySem.W
section
variable {prog:Program} {w:World} {A:Around} {E:Value->Shared->Prop} {s:Shared} {K:Frag} {x D:Addr} {ox:Obj}
end
end Hx
namespace Hx
open PySem PySem.Spec PySem.Calls PyProof.Rows PySem.W L2
section
variable {X:Cx} {x:Str} {C S:Addr} {np cpos pos:Pos} {e:Expr} {es:List Expr} {t:TA}
end
section
variable {fs fs' ch:List Addr} {H H1:Hp} {h h1 h2:Heap} {old:Addr->Prop} {P:Program} {w:World} {a:Addr}
end
theorem there {P:Program} {w:World} {H:Hp} {h:Heap} {a:Addr} {o:HO} (x:bw P w H h a o):∃ u,h.get? a=some u:=by
 cases o with
 | lst xs=>obtain ⟨_,_,_,_,e⟩:=x; exact ⟨_,e⟩
 | tup xs=>obtain ⟨_,_,_,o,e,_⟩:=x; exact ⟨_,e⟩
 | dK kvs=>obtain ⟨_,_,_,_,o,_,_,e,_⟩:=x; exact ⟨_,e⟩
 | dT kvs=>obtain ⟨_,_,_,_,o,_,_,e,_⟩:=x; exact ⟨_,e⟩
 | set S n=>obtain ⟨o,_,_,_,e,_⟩:=x; exact ⟨_,e⟩
 | ins C dx fs=>obtain ⟨_,_,_,e,_⟩:=x; exact ⟨_,e⟩
 | own y=>exact x
 | xd fs=>obtain ⟨_,⟨o,_,_,e,_⟩,_⟩:=x; exact ⟨_,e⟩
 | met f y=>exact ⟨_,x⟩
 | rng lo hi=>obtain ⟨_,_,_,e⟩:=x; exact ⟨_,e⟩
 | frz o u=>exact ⟨_,x.1⟩
 | tbl ps=>exact ⟨_,x⟩
 | ext φ=>exact x.2.1
section
variable {P:Program} {w:World} {K:Frag} {mg:Str->Option Value} {base:Heap} {N:List Str} {qual:Str} {scope:Scope} {f:Addr} {cd:Value} {A:Around} {outer:List Env} {s0:Shared} {H0:Hp} {E:XK} {cl:Nat->Addr}
end
section
variable {X:Cx} {pins:List (Addr × Obj)} {σ:L2.St} {H:Hp} {s:Shared} {a:Addr}
noncomputable abbrev XP (X:Cx) (pins:List (Addr × Obj)) (E:Value->Shared->Prop):Cx:={ X with pn:=X.pn++pins,xe:=E }
end
section
variable {X:Cx} {cl:Nat->Addr} {ks:List Nat} {n sm:Str} {i:Nat} {S:Addr} {ret:Expr} {psm pr ph pos:Pos} {body:List Stmt} {tb:(Nat->Hp->Prop)->TS} {tr:Addr->Obj->TE}
end
end Hx
namespace Ev
open PySem PySem.Spec PyProof.Rows L2
structure Bx where
 p:PySem.W.Frag->Hp->Addr->Prop
 mono:∀ {K:PySem.W.Frag} {H H':Hp} {a:Addr},aq H H'->p K H a->p K H' a
 isd:∀ {K:PySem.W.Frag} {H:Hp} {a:Addr},p K H a->∃ o:HO,H a=some o/\∀ (P:Program) (w:World) (H':Hp) (h:Heap),bw P w H' h a o->∃ ob,h.get? a=some ob/\ob.cls=.type "dict"
inductive D where
 | non | bl (b:Bool) | int (i:Int) | str (x:Str) | tup (xs:List D) | lst (xs:List D) | box (x:Bx)
noncomputable instance:Inhabited D:=⟨.non⟩
mutual
inductive Den (K:PySem.W.Frag) (H:Hp):V->D->Prop where
 | non:Den K H .non .non
 | bl {b:Bool}:Den K H (.bl b) (.bl b)
 | int {i:Int}:Den K H (.int i) (.int i)
 | str {x:Str}:Den K H (.str x) (.str x)
 | tup {a:Addr} {vs:List V} {ds:List D} (h:SqT K H a vs) (r:ar K H vs ds):Den K H (.ref a) (.tup ds)
 | lst {a:Addr} {vs:List V} {ds:List D} (h:SqL K H a vs) (r:ar K H vs ds):Den K H (.ref a) (.lst ds)
 | box {a:Addr} {x:Bx} (h:x.p K H a):Den K H (.ref a) (.box x)
inductive ar (K:PySem.W.Frag) (H:Hp):List V->List D->Prop where
 | nil:ar K H [] []
 | cons {v:V} {d:D} {vs:List V} {ds:List D} (h:Den K H v d) (r:ar K H vs ds):ar K H (v :: vs) (d :: ds)
end
section
variable {K:PySem.W.Frag} {H H':Hp}
theorem aM (e:aq H H') {a:Addr} {xs:List V} (h:SqT K H a xs):SqT K H' a xs:=by
 rcases h with (h | ⟨o,h⟩) | h
 · exact .inl (.inl (e _ _ h))
 · exact .inl (.inr ⟨o,e _ _ h⟩)
 · exact .inr h
theorem aG (e:aq H H') {a:Addr} {xs:List V} (h:SqL K H a xs):SqL K H' a xs:=e.seq h
mutual
theorem Den.mono (e:aq H H'):∀ {v:V} {d:D},Den K H v d->Den K H' v d
 | _,_,.non=>.non
 | _,_,.bl=>.bl
 | _,_,.int=>.int
 | _,_,.str=>.str
 | _,_,.tup h r=>.tup (aM e h) (ar.mono e r)
 | _,_,.lst h r=>.lst (aG e h) (ar.mono e r)
 | _,_,.box (x:=x) h=>.box (x.mono e h)
theorem ar.mono (e:aq H H'):∀ {vs:List V} {ds:List D},ar K H vs ds->ar K H' vs ds
 | _,_,.nil=>.nil
 | _,_,.cons h r=>.cons (Den.mono e h) (ar.mono e r)
end
theorem ar.length:∀ {vs:List V} {ds:List D},ar K H vs ds->vs.length=ds.length
 | _,_,.nil=>rfl
 | _,_,.cons _ r=>congrArg (· + 1) r.length
theorem ar.get:∀ {vs:List V} {ds:List D} {i:Nat} {d:D},ar K H vs ds->ds[i]?=some d->∃ v,vs[i]?=some v/\Den K H v d
 | _,_,_,_,.nil,e=>by simp at e
 | _,_,0,_,.cons h _,e=>by simp at e; subst e; exact ⟨_,rfl,h⟩
 | _,_,i + 1,d,.cons _ r,e=>by
   obtain ⟨v,h1,h2⟩:=ar.get (i:=i) (d:=d) r (by simpa using e)
   exact ⟨v,by simpa using h1,h2⟩
theorem ar.append:∀ {xs ys:List V} {ds es:List D},ar K H xs ds->ar K H ys es->ar K H (xs++ys) (ds++es)
 | _,_,_,_,.nil,s=>s
 | _,_,_,_,.cons h r,s=>.cons h (ar.append r s)
theorem ar.take:∀ {xs:List V} {ds:List D} (n:Nat),ar K H xs ds->ar K H (xs.take n) (ds.take n)
 | _,_,0,_=>.nil
 | _,_,_ + 1,.nil=>.nil
 | _,_,n + 1,.cons h r=>.cons h (ar.take n r)
theorem ar.drop:∀ {xs:List V} {ds:List D} (n:Nat),ar K H xs ds->ar K H (xs.drop n) (ds.drop n)
 | _,_,0,r=>r
 | _,_,_ + 1,.nil=>.nil
 | _,_,n + 1,.cons _ r=>ar.drop n r
end
noncomputable def aF (i j:Int):Prop:=i.natAbs.log2 < 64\/j.natAbs.log2 < 64\/(i.natAbs.log2 < 1000000/\j.natAbs.log2 < 1000000)
noncomputable def aE (j:Int):Prop:=j ≠ 0/\j.natAbs.log2 < 9000
theorem ah {H:Hp} {p:Addr} (h:H p=none) (o:HO):aq H (upd H p o):=λb u q=>by rw [aD (aJ q h)]; exact q
noncomputable def Ite (K:PySem.W.Frag) (a:Addr):L2.It:=
 ⟨λi H=>∃ xs x,SqL K H a xs/\xs[i]?=some x,λi H v H'=>∃ p x,H p=none/\v=.ref p/\H'=upd H p (.tup [.int (i:Nat),x])/\∀ xs,SqL K H a xs->xs[i]?=some x,λi H=>∃ xs,SqL K H a xs/\xs.length<=i⟩
theorem ny {P:Program} {w:World} {K:PySem.W.Frag} {ts:List Expr} {q:Nat} {tp:Pos} (a e it:Addr) (hne:e ≠ it) :
   Turn P w K false (.Tuple ts q tp) (Ite K a) [e,it] e (λi h=>(∃ old,IsEnum h e it (i:Nat) old)/\h.IsListIter it a i) where
 mem:=by simp
 obj:=λi h st b hb=>by
   obtain ⟨⟨old,h1⟩,o,h2,h3,h4⟩:=st
   rcases List.mem_cons.mp hb with rfl | hb
   · exact ⟨_,h1,λv z=>nomatch z⟩
   · have z:b=it:=by simpa using hb
     subst z
     exact ⟨o,h2,λv z=>by rw [h4] at z; cases z⟩
 keep:=λi h h' st k=>by
   obtain ⟨⟨old,h1⟩,o,h2,h3,h4⟩:=st
   exact ⟨⟨old,k e (by simp) _ h1⟩,o,k it (by simp) o h2,h3,h4⟩
 item:=by
   intro X hP hw hK hc i pins s σ H E I hf st hg
   subst hP hw hK
   obtain ⟨xs,x,hq,hx⟩:=hg
   obtain ⟨its,rv,p,hz⟩:=I.list hq
   obtain ⟨u,hu,ru⟩:=rv.get hx
   obtain ⟨⟨old,h1⟩,h2⟩:=st
   have fe:=hf e (by simp)
   have fi:=hf it (by simp)
   refine wpAny_pyNext_enum_item h1 h2 p.isList (x:=u) (by simpa using hu) hne λh' g1 g2 g3 g4 g5=>⟨_,rfl,?_⟩
   refine wpAny_letOwnedTupleGo_enum (s:={ s with heap:=h',toks:=s.toks + 1 }) g1 λh2' k1 k2=>?_
   have hn:H s.heap.objs.size=none:=I.hok.fresh (Nat.le_refl _)
   have le1:e < s.heap.objs.size:=Heap.lt_size h1
   have le2:it < s.heap.objs.size:=by obtain ⟨o,z,_⟩:=h2; exact Heap.lt_size z
   have kp:∀ b o,b ≠ e->b ≠ it->s.heap.get? b=some o->h2'.get? b=some o:=λb o b1 b2 z=>(k2.2 b b1).trans (g5 b o b1 b2 z)
   have nt:h2'.get? s.heap.objs.size=some { cls:=.type "tuple",data:=.seq #[.int (i:Nat) s.toks,u] }:=(k2.2 _ (Nat.ne_of_gt le1)).trans g3
   have ne1:∀ b v,H b=some v->b ≠ e:=λb v z q=>by rw [q,fe.1] at z; cases z
   have ne2:∀ b v,H b=some v->b ≠ it:=λb v z q=>by rw [q,fi.1] at z; cases z
   have hok0:HOk X.prog X.w H h2':=λb v z=>(I.hok b v z).gm (λc v' hc' q=>kp c v' (by
       rcases hc' with hc' | hc'
       · rw [hc']; exact ne1 b v z
       · exact ne1 c _ hc') (by
       rcases hc' with hc' | hc'
       · rw [hc']; exact ne2 b v z
       · exact ne2 c _ hc') q) (λ_ q=>q) λ_ _ q=>q
   have hok1:HOk X.prog X.w (upd H s.heap.objs.size (.tup [.int (i:Nat),x])) h2':=λb v z=>by
     by_cases hb:b=s.heap.objs.size
     · subst hb
       rw [aL] at z; cases z
       exact ⟨(by show 2<=sizeLine; decide),[.int (i:Nat) s.toks,u],.cons ⟨_,rfl⟩ (.cons ru .nil),_,nt,rfl,_,rfl⟩
     · rw [aD hb] at z
       exact (hok0 b v z).gm (λc v' _ q=>q) (λc q=>by rw [aD (aJ q hn)]; exact q) λc ys q=>by rw [aD (aJ q hn)]; exact q
   have I1:Inv X pins σ (upd H s.heap.objs.size (.tup [.int (i:Nat),x])) { s with heap:=h2',toks:=s.toks + 1 }:=by
     refine I.step (g':=s.gens) (d':=s.drawn) (ch:=[e,it]) (λb hb=>?_) (λb o _ _ hc' z _=>kp b o (λq=>hc' (by simp [q])) (λq=>hc' (by simp [q])) z)
       (λb o _ _ hc' z _=>⟨o.slots,kp b o (λq=>hc' (by simp [q])) (λq=>hc' (by simp [q])) z⟩)
       (λb o hc' z n=>by rw [aD (Nat.ne_of_lt (Heap.lt_size z))]; exact n) (λb o hc' z=>⟨o,kp b o (λq=>hc' (by simp [q])) (λq=>hc' (by simp [q])) z⟩)
       (λb ys z=>by rw [aD (aJ z hn)]; exact z) (λb o u z=>by rw [aD (aJ z hn)]; exact z) (λb ps z=>⟨#[],by rw [aD (aJ z hn),z]; simp⟩) (λm hm=>?_) hok1 I.bare
     · rcases List.mem_cons.mp hb with rfl | hb
       · exact ⟨fe.2.2.2.1,fe.2.1,fe.2.2.2.2.1,fe.2.2.2.2.2⟩
       · have z:b=it:=by simpa using hb
         subst z
         exact ⟨fi.2.2.2.1,fi.2.1,fi.2.2.2.2.1,fi.2.2.2.2.2⟩
     · obtain ⟨o,es,ep,ho,r⟩:=hm
       exact ⟨o,es,ep,kp _ o (Ne.symm fe.2.1) (Ne.symm fi.2.1) ho,r⟩
   refine ⟨.ref s.heap.objs.size,_,I1,rfl,⟨s.heap.objs.size,x,hn,rfl,rfl,λys hy=>by rw [I.eL hy hq]; exact hx⟩,⟨⟨_,k1⟩,?_⟩,λb hb=>?_⟩
   · obtain ⟨o,z1,z2,z3⟩:=g2
     exact ⟨o,(k2.2 it (Ne.symm hne)).trans z1,z2,z3⟩
   · rcases List.mem_cons.mp hb with rfl | hb
     · rw [aD (Nat.ne_of_lt le1)]; exact fe.1
     · have z:b=it:=by simpa using hb
       subst z
       rw [aD (Nat.ne_of_lt le2)]; exact fi.1
 done:=by
   intro X hP hw hK hc i pins s σ H E I hf st hg
   subst hP hw hK
   obtain ⟨xs,hq,hx⟩:=hg
   obtain ⟨its,rv,p,hz⟩:=I.list hq
   obtain ⟨⟨old,h1⟩,h2⟩:=st
   obtain ⟨f0,f1,f2,f3,f4,f5⟩:=hf it (by simp)
   have hl:=rv.length
   exact wpAny_pyNext_enum_end (I.ok.hd hc.calm) h1 h2 p.isList (by simp; omega) λh' eb=>⟨rfl,I.turned (t':=s.toks) (λb o hb z=>eb b o hb z) f0 f1 f3 f4 f5⟩
 self:=λ_ _ _ _ _ st h=>by
   obtain ⟨⟨old,h1⟩,_⟩:=st
   exact wpAny_pyIter_enum h1 h
section
variable {X:Cx}
noncomputable def tG (K:PySem.W.Frag) (ta:TA):TI:=λσ H R=>ta σ H λvs H1=>∃ a,vs=[.ref a]/\(∃ xs,SqL K H1 a xs)/\R (Ite K a) H1
theorem nr:bootBuiltins "enumerate" = some (.type "enumerate"):=by decide +kernel
theorem jn {ts:List Expr} {q:Nat} {tp:Pos} {a:Expr} {ta:TA} {p pos:Pos} (hc:X.calm=true) (hg:Gl X "enumerate") (hm:X.mg "enumerate" = none) (ha:PA X [a] ta) (hs:starEach [a] X.env=[(false,eval a X.env)]) :
   PI X (.Tuple ts q tp) (.Call (.Name "enumerate" p) [a] [] pos) (tG X.K ta):=by
 intro pins s σ H R I h
 refine Call_ (ee I hg hm nr (PyProof.Rows.callWith_type1 (thn (ha pos pins s σ H _ I h) λus s1 ⟨vs,H1,I1,r1,q1⟩=>?_) hs rfl))
 obtain ⟨l,e,⟨xs,hq⟩,q⟩:=q1
 subst e
 obtain ⟨u,rfl,ru⟩:=vals1 r1
 cases ru
 obtain ⟨its,rv,pl,hz⟩:=I1.list hq
 refine call_enumerate_list pl.isList λh' g1 g2 g3 g4=>?_
 refine wpAny_pyIter_enum (s:={ s1 with heap:=h' }) g1 ?_
 have I2:Inv X pins σ H1 { s1 with heap:=h' }:=I1.kept (t':=s1.toks) g4
 have n1:H1 (s1.heap.objs.size + 1)=none:=I1.hok.fresh (by omega)
 have n2:H1 s1.heap.objs.size=none:=I1.hok.fresh (Nat.le_refl _)
 refine ⟨false,s1.heap.objs.size + 1,[s1.heap.objs.size + 1,s1.heap.objs.size],_,_,H1,rfl,I2,.inl hc,ny l (s1.heap.objs.size + 1) s1.heap.objs.size (Nat.succ_ne_self _),⟨⟨_,g1⟩,g2⟩,λb hb=>?_,q⟩
 rcases List.mem_cons.mp hb with rfl | hb
 · exact I1.j8 (by omega) n1
 · have z:b=s1.heap.objs.size:=by simpa using hb
   subst z
   exact I1.j8 (Nat.le_refl _) n2
end
noncomputable def Itz (K:PySem.W.Frag) (a b:Addr):L2.It:=
 ⟨λi H=>∃ xs ys x y,SqL K H a xs/\SqL K H b ys/\xs[i]?=some x/\ys[i]?=some y,
  λi H v H'=>∃ p x y,H p=none/\v=.ref p/\H'=upd H p (.tup [x,y])/\(∀ xs,SqL K H a xs->xs[i]?=some x)/\∀ ys,SqL K H b ys->ys[i]?=some y,
  λi H=>∃ xs ys,SqL K H a xs/\SqL K H b ys/\(xs.length<=i\/ys.length<=i)⟩
noncomputable def zSt (a b z TI TO i1 i2:Addr) (i:Nat) (h:Heap):Prop:=
 IsZip h z TI TO .none/\IsPair h TI (.ref i1) (.ref i2)/\(∃ u v,IsPair h TO u v)/\h.IsListIter i1 a i/\h.IsListIter i2 b i
theorem iP {h:Heap} {a b z TI TO i1 i2:Addr} {i:Nat} {xs ys:Array Value} (n:TI ≠ TO) (m:i1 ≠ i2) (s:zSt a b z TI TO i1 i2 i h) (l1:h.IsList a xs) (l2:h.IsList b ys):ZipApart z TI TO i1 i2 a b:=by
 obtain ⟨h1,h2,⟨u,v,h3⟩,⟨o4,h4,c4,d4⟩,⟨o5,h5,c5,d5⟩⟩:=s
 obtain ⟨o6,h6,c6,n6,d6⟩:=l1
 obtain ⟨o7,h7,c7,n7,d7⟩:=l2
 have kk:∀ {x y:Addr} {o p:Obj},h.get? x=some o->h.get? y=some p->o.cls ≠ p.cls->x ≠ y:=λe1 e2 c q=>by subst q; rw [e1] at e2; cases e2; exact c rfl
 have cz:∀ {s t:String},s ≠ t->Value.type s ≠ Value.type t:=λn q=>n (by cases q; rfl)
 refine ⟨kk h2 h1 (cz (by decide)),kk h3 h1 (cz (by decide)),kk h4 h1 ?_,kk h5 h1 ?_,n,kk h2 h4 ?_,kk h2 h5 ?_,kk h3 h4 ?_,kk h3 h5 ?_,m,kk h6 h1 ?_,kk h6 h3 ?_,kk h6 h4 ?_,kk h6 h5 ?_,kk h7 h1 ?_,kk h7 h3 ?_,kk h7 h4 ?_,kk h7 h5 ?_⟩
 all_goals first | (rw [c4]; exact cz (by decide)) | (rw [c5]; exact cz (by decide)) | (rw [c6]; exact cz (by decide)) | (rw [c7]; exact cz (by decide)) | (rw [c6,c4]; exact cz (by decide)) | (rw [c6,c5]; exact cz (by decide)) | (rw [c7,c4]; exact cz (by decide)) | (rw [c7,c5]; exact cz (by decide))
theorem oA {P:Program} {w:World} {K:PySem.W.Frag} {ts:List Expr} {q:Nat} {tp:Pos} (a b z TI TO i1 i2:Addr) (nT:TI ≠ TO) (nI:i1 ≠ i2) :
   Turn P w K false (.Tuple ts q tp) (Itz K a b) [z,TI,TO,i1,i2] z (zSt a b z TI TO i1 i2) where
 mem:=by simp
 obj:=λi h st c hb=>by
   obtain ⟨h1,h2,⟨u,v,h3⟩,⟨o4,h4,c4,d4⟩,⟨o5,h5,c5,d5⟩⟩:=st
   simp only [List.mem_cons,List.not_mem_nil,or_false] at hb
   rcases hb with rfl | rfl | rfl | rfl | rfl
   · exact ⟨_,h1,λv z=>nomatch z⟩
   · exact ⟨_,h2,λv z=>nomatch z⟩
   · exact ⟨_,h3,λv z=>nomatch z⟩
   · exact ⟨_,h4,λv z=>by rw [d4] at z; cases z⟩
   · exact ⟨_,h5,λv z=>by rw [d5] at z; cases z⟩
 keep:=λi h h' st k=>by
   obtain ⟨h1,h2,⟨u,v,h3⟩,⟨o4,h4,c4,d4⟩,⟨o5,h5,c5,d5⟩⟩:=st
   exact ⟨k z (by simp) _ h1,k TI (by simp) _ h2,⟨u,v,k TO (by simp) _ h3⟩,⟨o4,k i1 (by simp) _ h4,c4,d4⟩,⟨o5,k i2 (by simp) _ h5,c5,d5⟩⟩
 item:=by
   intro X hP hw hK hc i pins s σ H E I hf st hg
   subst hP hw hK
   obtain ⟨xs,ys,x,y,hq1,hq2,hx,hy⟩:=hg
   obtain ⟨its1,rv1,p1,hz1⟩:=I.list hq1
   obtain ⟨its2,rv2,p2,hz2⟩:=I.list hq2
   obtain ⟨u1,hu1,ru1⟩:=rv1.get hx
   obtain ⟨u2,hu2,ru2⟩:=rv2.get hy
   have D:=iP nT nI st p1.isList p2.isList
   obtain ⟨h1,h2,⟨u,v,h3⟩,h4,h5⟩:=st
   refine wpAny_pyNext_zip_item D h1 h2 h3 h4 h5 p1.isList p2.isList (x:=u1) (y:=u2) (by simpa using hu1) (by simpa using hu2) λh' g1 g2 g3 g4 g5 g6 g7=>⟨_,rfl,?_⟩
   refine wpAny_letOwnedTupleGo_zip (s:={ s with heap:=h' }) g1 λh2' k1 k2=>?_
   have hn:H s.heap.objs.size=none:=I.hok.fresh (Nat.le_refl _)
   have le1:z < s.heap.objs.size:=Heap.lt_size h1
   have lt2:TI < s.heap.objs.size:=Heap.lt_size h2
   have lt3:TO < s.heap.objs.size:=Heap.lt_size h3
   have lt4:i1 < s.heap.objs.size:=by obtain ⟨o,z,_⟩:=h4; exact Heap.lt_size z
   have lt5:i2 < s.heap.objs.size:=by obtain ⟨o,z,_⟩:=h5; exact Heap.lt_size z
   have kp:∀ c o,c ≠ z->c ≠ TO->c ≠ i1->c ≠ i2->s.heap.get? c=some o->h2'.get? c=some o:=λc o b1 b2 b3 b4 e=>(k2.2 c b1).trans (g7 c o b1 b2 b3 b4 e)
   have nt:IsPair h2' s.heap.objs.size u1 u2:=(k2.2 _ (Nat.ne_of_gt le1)).trans g5
   have ne:∀ c,c ∈ [z,TI,TO,i1,i2]->∀ d v,H d=some v->d ≠ c:=λc hc d v e q=>by
     have:=(hf c hc).1
     rw [q,this] at e; cases e
   have hok0:HOk X.prog X.w H h2':=λd v e=>(I.hok d v e).gm (λc v' hc' q=>kp c v'
       (by rcases hc' with hc' | hc'
           · rw [hc']; exact ne z (by simp) d v e
           · exact ne z (by simp) c _ hc')
       (by rcases hc' with hc' | hc'
           · rw [hc']; exact ne TO (by simp) d v e
           · exact ne TO (by simp) c _ hc')
       (by rcases hc' with hc' | hc'
           · rw [hc']; exact ne i1 (by simp) d v e
           · exact ne i1 (by simp) c _ hc')
       (by rcases hc' with hc' | hc'
           · rw [hc']; exact ne i2 (by simp) d v e
           · exact ne i2 (by simp) c _ hc') q) (λ_ q=>q) λ_ _ q=>q
   have hok1:HOk X.prog X.w (upd H s.heap.objs.size (.tup [x,y])) h2':=λd v e=>by
     by_cases hb:d=s.heap.objs.size
     · subst hb
       rw [aL] at e; cases e
       exact ⟨(by show 2<=sizeLine; decide),[u1,u2],.cons ru1 (.cons ru2 .nil),_,nt,rfl,_,rfl⟩
     · rw [aD hb] at e
       exact (hok0 d v e).gm (λc v' _ q=>q) (λc q=>by rw [aD (aJ q hn)]; exact q) λc ys q=>by rw [aD (aJ q hn)]; exact q
   have I1:Inv X pins σ (upd H s.heap.objs.size (.tup [x,y])) { s with heap:=h2' }:=by
     refine I.step (t':=s.toks) (g':=s.gens) (d':=s.drawn) (ch:=[z,TO,i1,i2]) (λc hb=>?_) (λc o _ _ hc' e _=>kp c o (λq=>hc' (by simp [q])) (λq=>hc' (by simp [q])) (λq=>hc' (by simp [q])) (λq=>hc' (by simp [q])) e)
       (λc o _ _ hc' e _=>⟨o.slots,kp c o (λq=>hc' (by simp [q])) (λq=>hc' (by simp [q])) (λq=>hc' (by simp [q])) (λq=>hc' (by simp [q])) e⟩)
       (λc o hc' e n=>by rw [aD (Nat.ne_of_lt (Heap.lt_size e))]; exact n) (λc o hc' e=>⟨o,kp c o (λq=>hc' (by simp [q])) (λq=>hc' (by simp [q])) (λq=>hc' (by simp [q])) (λq=>hc' (by simp [q])) e⟩)
       (λc ys e=>by rw [aD (aJ e hn)]; exact e) (λc o u e=>by rw [aD (aJ e hn)]; exact e) (λc ps e=>⟨#[],by rw [aD (aJ e hn),e]; simp⟩) (λm hm=>?_) hok1 I.bare
     · have hb':c ∈ [z,TI,TO,i1,i2]:=by
         simp only [List.mem_cons,List.not_mem_nil,or_false] at hb ⊢
         rcases hb with h | h | h | h <;> simp [h]
       have fe:=hf c hb'
       exact ⟨fe.2.2.2.1,fe.2.1,fe.2.2.2.2.1,fe.2.2.2.2.2⟩
     · obtain ⟨o,es,ep,ho,r⟩:=hm
       exact ⟨o,es,ep,kp _ o (Ne.symm (hf z (by simp)).2.1) (Ne.symm (hf TO (by simp)).2.1) (Ne.symm (hf i1 (by simp)).2.1) (Ne.symm (hf i2 (by simp)).2.1) ho,r⟩
   refine ⟨.ref s.heap.objs.size,_,I1,rfl,⟨s.heap.objs.size,x,y,hn,rfl,rfl,λzs hy'=>by rw [I.eL hy' hq1]; exact hx,λzs hy'=>by rw [I.eL hy' hq2]; exact hy⟩,⟨k1,?_,⟨u1,u2,(k2.2 TO D.TOz).trans g2⟩,?_,?_⟩,λc hb=>?_⟩
   · exact kp TI _ D.TIz D.TITO D.TIi1 D.TIi2 h2
   · obtain ⟨o,z1,z2,z3⟩:=g3
     exact ⟨o,(k2.2 i1 D.i1z).trans z1,z2,z3⟩
   · obtain ⟨o,z1,z2,z3⟩:=g4
     exact ⟨o,(k2.2 i2 D.i2z).trans z1,z2,z3⟩
   · have fc:=(hf c hb).1
     have lt:c < s.heap.objs.size:=by
       simp only [List.mem_cons,List.not_mem_nil,or_false] at hb
       rcases hb with rfl | rfl | rfl | rfl | rfl <;> assumption
     rw [aD (Nat.ne_of_lt lt)]
     exact fc
 done:=by
   intro X hP hw hK hc i pins s σ H E I hf st hg
   subst hP hw hK
   obtain ⟨xs,ys,hq1,hq2,hx⟩:=hg
   obtain ⟨its1,rv1,p1,hz1⟩:=I.list hq1
   obtain ⟨its2,rv2,p2,hz2⟩:=I.list hq2
   have D:=iP nT nI st p1.isList p2.isList
   obtain ⟨h1,h2,⟨u,v,h3⟩,h4,h5⟩:=st
   have hl1:=rv1.length
   have hl2:=rv2.length
   refine wpAny_pyNext_zip_end (I.ok.hd hc.calm) D h1 h2 h3 h4 h5 p1.isList p2.isList (by
     rcases hx with hx | hx
     · left; simp; omega
     · right; simp; omega) λh' eb=>⟨rfl,?_⟩
   have ne:∀ c,c ∈ [z,TI,TO,i1,i2]->∀ d v,H d=some v->d ≠ c:=λc hc d v e q=>by
     have:=(hf c hc).1
     rw [q,this] at e; cases e
   have hok0:HOk X.prog X.w H h':=λd v e=>(I.hok d v e).gm (λc v' hc' q=>eb c v'
       (by rcases hc' with hc' | hc'
           · rw [hc']; exact ne z (by simp) d v e
           · exact ne z (by simp) c _ hc')
       (by rcases hc' with hc' | hc'
           · rw [hc']; exact ne TO (by simp) d v e
           · exact ne TO (by simp) c _ hc')
       (by rcases hc' with hc' | hc'
           · rw [hc']; exact ne i1 (by simp) d v e
           · exact ne i1 (by simp) c _ hc')
       (by rcases hc' with hc' | hc'
           · rw [hc']; exact ne i2 (by simp) d v e
           · exact ne i2 (by simp) c _ hc') q) (λ_ q=>q) λ_ _ q=>q
   refine I.step (t':=s.toks) (g':=s.gens) (d':=s.drawn) (ch:=[z,TO,i1,i2]) (λc hb=>?_) (λc o _ _ hc' e _=>eb c o (λq=>hc' (by simp [q])) (λq=>hc' (by simp [q])) (λq=>hc' (by simp [q])) (λq=>hc' (by simp [q])) e)
       (λc o _ _ hc' e _=>⟨o.slots,eb c o (λq=>hc' (by simp [q])) (λq=>hc' (by simp [q])) (λq=>hc' (by simp [q])) (λq=>hc' (by simp [q])) e⟩)
       (λc o hc' e n=>n) (λc o hc' e=>⟨o,eb c o (λq=>hc' (by simp [q])) (λq=>hc' (by simp [q])) (λq=>hc' (by simp [q])) (λq=>hc' (by simp [q])) e⟩)
       (λc ys e=>e) (λc o u e=>e) (λc ps e=>⟨#[],by rw [e]; simp⟩) (λm hm=>?_) hok0 I.bare
   · have hb':c ∈ [z,TI,TO,i1,i2]:=by
       simp only [List.mem_cons,List.not_mem_nil,or_false] at hb ⊢
       rcases hb with h | h | h | h <;> simp [h]
     have fe:=hf c hb'
     exact ⟨fe.2.2.2.1,fe.2.1,fe.2.2.2.2.1,fe.2.2.2.2.2⟩
   · obtain ⟨o,es,ep,ho,r⟩:=hm
     exact ⟨o,es,ep,eb _ o (Ne.symm (hf z (by simp)).2.1) (Ne.symm (hf TO (by simp)).2.1) (Ne.symm (hf i1 (by simp)).2.1) (Ne.symm (hf i2 (by simp)).2.1) ho,r⟩
 self:=λ_ _ _ _ _ st h=>wpAny_pyIter_zip st.1 h
section
variable {X:Cx}
noncomputable def um (K:PySem.W.Frag) (ta:TA):TI:=λσ H R=>ta σ H λvs H1=>∃ a b,vs=[.ref a,.ref b]/\(∃ xs,SqL K H1 a xs)/\(∃ ys,SqL K H1 b ys)/\R (Itz K a b) H1
theorem k4 {ts:List Expr} {q:Nat} {tp:Pos} {a b:Expr} {ta:TA} {p pos:Pos} (hc:X.calm=true) (hg:Gl X "zip") (hm:X.mg "zip" = none) (ha:PA X [a,b] ta) (hs:starEach [a,b] X.env=(false,eval a X.env) :: starEach [b] X.env) (hs2:starEach [b] X.env=[(false,eval b X.env)]) :
   PI X (.Tuple ts q tp) (.Call (.Name "zip" p) [a,b] [] pos) (um X.K ta):=by
 intro pins s σ H R I h
 refine Call_ (ee I hg hm boot_zip (PyProof.Rows.callWith_type1 (thn (ha pos pins s σ H _ I h) λus s1 ⟨vs,H1,I1,r1,q1⟩=>?_) hs (by rw [hs2]; rfl)))
 obtain ⟨l,l',e,⟨xs,hq1⟩,⟨ys,hq2⟩,q⟩:=q1
 subst e
 obtain ⟨u,u',rfl,ru,ru'⟩:=vals2 r1
 cases ru
 cases ru'
 obtain ⟨its1,rv1,pl1,hz1⟩:=I1.list hq1
 obtain ⟨its2,rv2,pl2,hz2⟩:=I1.list hq2
 refine call_zip_2 pl1.isList pl2.isList λh' g1 g2 g3 g4 g5 g6 g7=>?_
 refine wpAny_pyIter_zip (s:={ s1 with heap:=h' }) g1 ?_
 have I2:Inv X pins σ H1 { s1 with heap:=h' }:=I1.kept (t':=s1.toks) g7
 have nn:∀ j,H1 (s1.heap.objs.size + j)=none:=λj=>I1.hok.fresh (by omega)
 refine ⟨false,s1.heap.objs.size + 4,[s1.heap.objs.size + 4,s1.heap.objs.size + 2,s1.heap.objs.size + 3,s1.heap.objs.size,s1.heap.objs.size + 1],_,_,H1,rfl,I2,.inl hc,oA l l' (s1.heap.objs.size + 4) (s1.heap.objs.size + 2) (s1.heap.objs.size + 3) s1.heap.objs.size (s1.heap.objs.size + 1) (by simp) (Ne.symm (Nat.succ_ne_self _)),⟨g1,g2,⟨_,_,g3⟩,g4,g5⟩,λc hb=>?_,q⟩
 have hb':∃ j,c=s1.heap.objs.size + j:=by
   simp only [List.mem_cons,List.not_mem_nil,or_false] at hb
   rcases hb with h | h | h | h | h
   · exact ⟨_,h⟩
   · exact ⟨_,h⟩
   · exact ⟨_,h⟩
   · exact ⟨0,h⟩
   · exact ⟨_,h⟩
 obtain ⟨j,rfl⟩:=hb'
 exact I1.j8 (Nat.le_add_right _ _) (nn j)
end
section
variable {X:Cx} {tg:Expr}
end
theorem oz:∀ (names:List (Str × NameKind)) (n:Nat) (acc:List (Str × Addr)) (x:Str) (c:Addr),(cellsFrom n names acc).lookup x=some c->n<=c\/acc.lookup x=some c
 | [],_,_,_,_,h=>.inr h
 | (y,k) :: r,n,acc,x,c,h=>by
   unfold cellsFrom at h
   split at h
   · rcases oz r (n + 1) _ x c h with q | q
     · exact .inl (by omega)
     · rw [List.lookup_cons] at q
       split at q
       · cases q; exact .inl (Nat.le_refl _)
       · exact .inr q
   · exact oz r n acc x c h
theorem gN:∀ (names:List (Str × NameKind)) (n:Nat) (acc:List (Str × Addr)) (x:Str),(x,NameKind.cell) ∉ names->(cellsFrom n names acc).lookup x=acc.lookup x
 | [],_,_,_,_=>rfl
 | (y,k) :: r,n,acc,x,h=>by
   have h1:(x,NameKind.cell) ∉ r:=λz=>h (List.mem_cons_of_mem _ z)
   unfold cellsFrom
   split
   · rename_i hk
     rw [gN r _ _ x h1,List.lookup_cons]
     have:(x == y)=false:=by
       rw [beq_eq_false_iff_ne]
       rintro rfl
       exact h (by rw [eq_of_beq hk]; exact List.mem_cons_self)
     rw [this]
   · exact gN r n acc x h1
theorem jl:∀ (names:List (Str × NameKind)) (n:Nat) (acc:List (Str × Addr)) (x:Str),(x,NameKind.cell) ∈ names->∃ c,(cellsFrom n names acc).lookup x=some c/\n<=c
 | (y,k) :: r,n,acc,x,h=>by
   unfold cellsFrom
   by_cases hr:(x,NameKind.cell) ∈ r
   · split
     · obtain ⟨c,e,l⟩:=jl r (n + 1) ((y,n) :: acc) x hr
       exact ⟨c,e,by omega⟩
     · exact jl r n acc x hr
   · rcases List.mem_cons.mp h with q | q
     · cases q
       rw [if_pos (by rfl),gN r _ _ _ hr]
       exact ⟨n,by simp [List.lookup_cons],Nat.le_refl _⟩
     · exact absurd q hr
theorem kM:∀ (names:List (Str × NameKind)) (n:Nat) (acc:List (Str × Addr)),(∀ x c,acc.lookup x=some c->c < n)->(∀ x y c,acc.lookup x=some c->acc.lookup y=some c->x=y) ->
   ∀ x y c,(cellsFrom n names acc).lookup x=some c->(cellsFrom n names acc).lookup y=some c->x=y
 | [],_,_,_,h=>h
 | (z,k) :: r,n,acc,hl,h=>by
   unfold cellsFrom
   split
   · refine kM r (n + 1) _ (λx c e=>?_) (λx y c e1 e2=>?_)
     · rw [List.lookup_cons] at e
       split at e
       · cases e; exact Nat.lt_succ_self _
       · exact Nat.lt_succ_of_lt (hl x c e)
     · rw [List.lookup_cons] at e1 e2
       split at e1
       · rename_i q1
         cases e1
         split at e2
         · rename_i q2
           exact (eq_of_beq q1).trans (eq_of_beq q2).symm
         · exact absurd (hl y _ e2) (Nat.lt_irrefl _)
       · split at e2
         · cases e2
           exact absurd (hl x _ e1) (Nat.lt_irrefl _)
         · exact h x y c e1 e2
   · exact kM r n acc hl h
theorem ji:∀ (names:List (Str × NameKind)) (h:Heap) (acc:List (Str × Addr)),(∀ x c,acc.lookup x=some c->∃ v,h.IsCell c v)->∀ x c,(cellsFrom h.objs.size names acc).lookup x=some c->∃ v,(pushCells h names).IsCell c v
 | [],_,_,ha,x,c,e=>ha x c e
 | (z,k) :: r,h,acc,ha,x,c,e=>by
   unfold cellsFrom at e
   unfold pushCells
   split at e
   · rename_i hk
     rw [if_pos hk]
     refine ji r _ ((z,h.objs.size) :: acc) (λy d q=>?_) x c (by rw [Heap.size_push]; exact e)
     rw [List.lookup_cons] at q
     split at q
     · cases q
       exact ⟨none,_,Heap.get?_push_size _ rfl,rfl⟩
     · obtain ⟨v,o,ho,hd⟩:=ha y d q
       exact ⟨v,o,Heap.get?_push_of_some _ ho,hd⟩
   · rename_i hk
     rw [if_neg hk]
     exact ji r h acc ha x c e
noncomputable def bT (env:PySem.Env):List (Str × NameKind)->List (Str × Addr)->List (Str × Addr)
 | [],acc=>acc
 | (n,k) :: r,acc=>if k == .free then (match env.cells.lookup n with | some c=>bT env r ((n,c) :: acc) | none=>bT env r acc) else bT env r acc
theorem gZ (env:PySem.Env):∀ (names:List (Str × NameKind)) (acc:List (Str × Addr)),(∀ x ∈ names,x.2=.free->∃ c,env.cells.lookup x.1=some c) ->
   (forIn (m:=Sem) names acc λx cs=>do
     let (name,kind):=x
     if kind == .free then do
       let c <- cellOf env name
       pure (ForInStep.yield ((name,c) :: cs))
     else pure (ForInStep.yield cs))=pure (bT env names acc)
 | [],acc,_=>rfl
 | (n,k) :: r,acc,h=>by
   rw [List.forIn_cons]
   unfold bT
   by_cases hk:(k == .free)=true
   · obtain ⟨c,hc⟩:=h (n,k) List.mem_cons_self (eq_of_beq hk)
     simp only [hk,if_true,cellOf,hc,pure_bind]
     exact gZ env r _ λx hx=>h x (List.mem_cons_of_mem _ hx)
   · simp only [hk,Bool.false_eq_true,if_false,pure_bind]
     exact gZ env r _ λx hx=>h x (List.mem_cons_of_mem _ hx)
theorem mw {env:PySem.Env} {scope:Scope} (h:∀ x ∈ scope.names,x.2=.free->∃ c,env.cells.lookup x.1=some c):closureFor scope env=pure (bT env scope.names []):=by
 unfold closureFor
 have:=gZ env scope.names [] h
 simp only [bind_pure]
 exact this
theorem cL (env:PySem.Env):∀ (names:List (Str × NameKind)) (acc:List (Str × Addr)) (x:Str) (c:Addr),(∀ y d,acc.lookup y=some d->env.cells.lookup y=some d)->(bT env names acc).lookup x=some c->env.cells.lookup x=some c
 | [],_,x,c,ha,h=>ha x c h
 | (n,k) :: r,acc,x,c,ha,h=>by
   unfold bT at h
   split at h
   · split at h
     · rename_i c' hc
       refine cL env r _ x c (λy d q=>?_) h
       rw [List.lookup_cons] at q
       split at q
       · rename_i qq
         cases q
         rw [eq_of_beq qq]; exact hc
       · exact ha y d q
     · exact cL env r acc x c ha h
   · exact cL env r acc x c ha h
theorem bY (env:PySem.Env):∀ (names:List (Str × NameKind)) (acc:List (Str × Addr)) (x:Str) (c:Addr),(∀ y d,acc.lookup y=some d->env.cells.lookup y=some d)->env.cells.lookup x=some c->((x,NameKind.free) ∈ names\/acc.lookup x=some c)->(bT env names acc).lookup x=some c
 | [],_,x,c,_,_,h=>h.elim (λz=>absurd z (by simp)) id
 | (n,k) :: r,acc,x,c,ha,hc,h=>by
   unfold bT
   split
   · split
     · rename_i c' hc'
       refine bY env r _ x c (λy d q=>?_) hc ?_
       · rw [List.lookup_cons] at q
         split at q
         · rename_i qq
           cases q
           rw [eq_of_beq qq]; exact hc'
         · exact ha y d q
       · by_cases q:x=n
         · subst q
           rw [hc] at hc'; cases hc'
           exact .inr (by simp [List.lookup_cons])
         · rcases h with h | h
           · rcases List.mem_cons.mp h with z | z
             · cases z; exact absurd rfl q
             · exact .inl z
           · refine .inr ?_
             rw [List.lookup_cons,beq_eq_false_iff_ne.mpr q]
             exact h
     · rename_i hc'
       refine bY env r acc x c ha hc ?_
       rcases h with h | h
       · rcases List.mem_cons.mp h with z | z
         · cases z; rw [hc] at hc'; cases hc'
         · exact .inl z
       · exact .inr h
   · rename_i hk
     refine bY env r acc x c ha hc ?_
     rcases h with h | h
     · rcases List.mem_cons.mp h with z | z
       · cases z; exact absurd rfl hk
       · exact .inl z
     · exact .inr h
theorem iV {M:Model} {A:Around} {E:Value->Shared->Prop} {s:Shared} {scope:Scope} {cl:List (Str × Addr)} {env:PySem.Env} {Q:PySem.Env->Shared->Prop}
   (h:Q (newEnv scope s.heap.objs.size env.globals (cellsFrom (s.heap.objs.size + 1) scope.names cl) env.qual none .none (some env) builtinsNs) { s with heap:=pushCells (s.heap.push { cls:=.type "dict",data:=.dict #[] }) scope.names }) :
   wpAny M A (newFunctionEnv scope env.globals cl [] env.qual none .none (some env)) Q E s:=by
 simp only [newFunctionEnv,Option.isSome_some,if_true]
 refine wpAny_bind (wpAny_alloc ?_)
 refine wpAny_bind (wpAny_layCells _ (λname kind cells=>by cases hkc:kind == NameKind.cell <;> simp [hkc]) _ _ _ _ ?_)
 rw [show ({ s with heap:=s.heap.push { cls:=.type "dict",data:=.dict #[] } }:Shared).heap.objs.size=s.heap.objs.size + 1 from Heap.size_push ..]
 exact wpAny_bind (wpAny_pure (wpAny_pure h))
noncomputable def aC (X:Cx) (s:Shared) (H:Hp) (scope:Scope) (N:List Str) (fp:List Addr):Cx:=
 { prog:=X.prog,w:=X.w,K:=X.K,mg:=X.mg,base:=X.base,A:=X.A,N:=N,s₀:=s,H₀:=H
   env:=compEnvC scope (cellsFrom (s.heap.objs.size + 1 + 1) scope.names (bT X.env scope.names [])) (s.heap.objs.size + 1) X.env
   outer:=X.stack,stack:=X.stack,ex:=fp,fn:=λx=>decide ((x,NameKind.cell) ∈ scope.names),calm:=X.calm,pn:=[],xe:=λ_ _=>False }
noncomputable def d9 (σ:L2.St) (caps:List (Option Nat)):L2.St:=caps.map λo=>o.bind λi=>(σ[i]?).join
structure cC (X:Cx) (scope:Scope) (N:List Str) (caps:List (Option Nat)):Prop where
 kind:scope.kind=.function
 loc:∀ x ∈ scope.names,x.2=.local->scope.names.lookup x.1=some .local
 fre:∀ x ∈ scope.names,x.2=.free->X.env.kindOf x.1=some .cell
 one:∀ x,(x,NameKind.free) ∈ scope.names->(x,NameKind.cell) ∉ scope.names
 noboth:∀ x,(x,NameKind.free) ∈ scope.names->(x,NameKind.local) ∉ scope.names
 len:N.length=caps.length + 1
 cap:∀ (j i:Nat),caps[j]?=some (some i)->∃ x,N[j]?=some x/\X.N[i]?=some x/\(x,NameKind.free) ∈ scope.names
 acc:∃ z,N[caps.length]?=some z/\¬ Vis (relabel scope X.env) z
section
variable {X:Cx} {pins:List (Addr × Obj)} {σ:L2.St} {H:Hp} {s:Shared} {scope:Scope} {N:List Str} {caps:List (Option Nat)} {fp:List Addr}
theorem cQ {env:PySem.Env} {x:Str} {names:List (Str × NameKind)} (h:∀ y,(y,NameKind.free) ∈ names->env.kindOf y=some .cell) (hk:env.scope.kind=.function) {k:NameKind}
   (e:(names.map λ(n,k)=>if (k == NameKind.free && env.scope.kind == .function && env.kindOf n == some .cell) then (n,NameKind.cell) else (n,k)).lookup x=some k) :
   (x,k) ∈ names\/((x,NameKind.free) ∈ names/\k=.cell):=by
 induction names with
 | nil=>cases e
 | cons p r ih=>
   obtain ⟨n,q⟩:=p
   rw [List.map_cons] at e
   have hr:∀ y,(y,NameKind.free) ∈ r->env.kindOf y=some .cell:=λy hy=>h y (List.mem_cons_of_mem _ hy)
   have sub:((x,k) ∈ r\/((x,NameKind.free) ∈ r/\k=.cell))->(x,k) ∈ (n,q) :: r\/((x,NameKind.free) ∈ (n,q) :: r/\k=.cell):=λz=>
     z.elim (λy=>.inl (List.mem_cons_of_mem _ y)) λy=>.inr ⟨List.mem_cons_of_mem _ y.1,y.2⟩
   dsimp only at e
   split at e
   · rename_i c
     rw [List.lookup_cons] at e
     split at e
     · rename_i qq
       cases e
       rw [Bool.and_eq_true,Bool.and_eq_true] at c
       rw [eq_of_beq qq,eq_of_beq c.1.1]
       exact .inr ⟨List.mem_cons_self,rfl⟩
     · exact sub (ih hr e)
   · rename_i c
     rw [List.lookup_cons] at e
     split at e
     · rename_i qq
       cases e
       rw [eq_of_beq qq]
       exact .inl List.mem_cons_self
     · exact sub (ih hr e)
theorem eC (I:Inv X pins σ H s) (c:cC X scope N caps):∀ x ∈ scope.names,x.2=.free->∃ d,X.env.cells.lookup x.1=some d:=λx hx hf=>I.ok.has x.1 (.inl (c.fre x hx hf))
theorem jS (I:Inv X pins σ H s) (hf:∀ b ∈ fp,hU X pins H b) (ho:∀ b ∈ fp,∃ o,s.heap.get? b=some o) (c:cC X scope N caps) :
   Inv (aC X s H scope N fp) [] (d9 σ caps++[some (.ref s.heap.objs.size)]) (upd H s.heap.objs.size (.lst []))
     { s with heap:=pushCells ((s.heap.push { cls:=.type "list",data:=.seq ([]:List Value).toArray }).push { cls:=.type "dict",data:=.dict #[] }) scope.names }:=by
 have hcl:∀ x d,(bT X.env scope.names []).lookup x=some d->X.env.cells.lookup x=some d:=λx d=>cL X.env scope.names [] x d (λy d z=>by simp at z)
 have kp:∀ b o,s.heap.get? b=some o->(pushCells ((s.heap.push { cls:=.type "list",data:=.seq ([]:List Value).toArray }).push { cls:=.type "dict",data:=.dict #[] }) scope.names).get? b=some o:=λb o e=>
   pushCells_keeps _ _ b o (Heap.get?_push_of_some _ (Heap.get?_push_of_some _ e))
 have sz2:((s.heap.push { cls:=.type "list",data:=.seq ([]:List Value).toArray }).push { cls:=.type "dict",data:=.dict #[] }).objs.size=s.heap.objs.size + 1 + 1:=by rw [Heap.size_push,Heap.size_push]
 have oldc:∀ x d,X.env.cells.lookup x=some d->d < s.heap.objs.size:=λx d e=>by
   obtain ⟨v,o,q,_⟩:=I.cell x d e
   exact Heap.lt_size q
 have cel:∀ x d,(aC X s H scope N fp).env.cells.lookup x=some d->s.heap.objs.size + 1 + 1<=d\/X.env.cells.lookup x=some d:=λx d e=>by
   rcases oz _ _ _ x d e with q | q
   · exact .inl q
   · exact .inr (hcl x d q)
 have ok:(aC X s H scope N fp).Ok:=by
   refine ⟨I.ok.mod,c.kind,I.ok.glob,I.ok.blt,Nat.le_succ _,?_,?_,?_,I.ok.hd,I.ok.frames,.inl rfl,?_,I.bs,Nat.le_trans I.ok.bsz I.sz,?_,?_,I.stack,I.mf⟩
   · exact kM _ _ _ (λx d e=>Nat.lt_of_lt_of_le (oldc x d (hcl x d e)) (by omega)) λx y d e1 e2=>I.ok.inj x y d (hcl x d e1) (hcl y d e2)
   · intro x hx
     have hfk:∀ y,(y,NameKind.free) ∈ scope.names->X.env.kindOf y=some .cell:=λy hy=>c.fre _ hy rfl
     have fre:(x,NameKind.free) ∈ scope.names->∃ d,(aC X s H scope N fp).env.cells.lookup x=some d:=λhm=>by
       obtain ⟨d,hd⟩:=eC I c _ hm rfl
       exact ⟨d,by
         show (cellsFrom _ scope.names _).lookup x=_
         rw [gN _ _ _ x (c.one x hm)]
         exact bY X.env scope.names [] x d (λy e z=>by simp at z) hd (.inl hm)⟩
     have own:(x,NameKind.cell) ∈ scope.names->∃ d,(aC X s H scope N fp).env.cells.lookup x=some d:=λhm=>by
       obtain ⟨d,e,_⟩:=jl scope.names (s.heap.objs.size + 1 + 1) (bT X.env scope.names []) x hm
       exact ⟨d,e⟩
     rcases hx with hx | hx
     · rcases cQ hfk I.ok.kind (show (scope.names.map _).lookup x=some .cell from hx) with q | q
       · exact own q
       · exact fre q.1
     · rcases cQ hfk I.ok.kind (show (scope.names.map _).lookup x=some .free from hx) with q | q
       · exact fre q
       · exact fre q.1
   · intro x d hfn e
     have hm:(x,NameKind.cell) ∈ scope.names:=of_decide_eq_true hfn
     obtain ⟨d',e',l⟩:=jl scope.names (s.heap.objs.size + 1 + 1) (bT X.env scope.names []) x hm
     have e2:(cellsFrom (s.heap.objs.size + 1 + 1) scope.names (bT X.env scope.names [])).lookup x=some d:=e
     rw [e'] at e2; cases e2
     exact Nat.le_trans (Nat.le_trans (Nat.le_succ _) (Nat.le_succ _)) l
   · intro b hb
     obtain ⟨o,q⟩:=ho b hb
     have bl:=Heap.lt_size q
     refine ⟨λz=>?_,λx d e z=>?_⟩
     · have z':b=s.heap.objs.size + 1:=z
       rw [z'] at bl
       exact absurd bl (Nat.not_lt.mpr (Nat.le_succ _))
     · subst z
       rcases cel x d e with q | q
       · exact absurd (Nat.lt_of_lt_of_le bl (Nat.le_trans (Nat.le_trans (Nat.le_succ _) (Nat.le_succ _)) q)) (Nat.lt_irrefl _)
       · exact (hf d hb).2.2.2.2.1 x d q rfl
   · intro b o e hb
     rcases (hf b hb).2.2.2.1 with q | q
     · exact I.ok.noex b o e q
     · have:=Nat.lt_of_lt_of_le (Heap.lt_size e) I.ok.bsz
       exact absurd (Nat.lt_of_lt_of_le this q) (Nat.lt_irrefl _)
   · intro b hb hm
     rcases List.mem_cons.mp (I.lK b hm) with q | q
     · exact (hf b hb).2.1 q
     · exact (hf b hb).2.2.1 q
 have hD:(pushCells ((s.heap.push { cls:=.type "list",data:=.seq ([]:List Value).toArray }).push { cls:=.type "dict",data:=.dict #[] }) scope.names).get? s.heap.objs.size=some { cls:=.type "list",data:=.seq ([]:List Value).toArray }:=
   pushCells_keeps _ _ _ _ (Heap.get?_push_of_some _ (Heap.get?_push_size _ rfl))
 have fr:∀ a,s.heap.objs.size<=a->a ≠ s.heap.objs.size->(upd H s.heap.objs.size (.lst [])) a=none:=λa h1 h2=>by rw [aD h2]; exact I.hok.fresh h1
 refine ⟨ok,rfl,I.bare,Un.laid kp (Nat.le_refl _) (I.hok.fresh (Nat.le_refl _)),⟨λ_=>none,?_,λi x v e1 e2 e3=>?_⟩,λx d e=>?_,?_,λx d e=>?_,λp hp=>absurd (show p ∈ ([]:List (Addr × Obj)) from hp) (by simp),?_,?_⟩
 · have:=Heap.Ns.new (s.heap.push { cls:=.type "list",data:=.seq ([]:List Value).toArray }) (.type "dict")
   rw [Heap.size_push] at this
   exact this.keeps (pushCells_keeps _ _)
 · by_cases hi:i < caps.length
   · rw [List.getElem?_append_left (by unfold d9; rw [List.length_map]; exact hi)] at e2
     unfold d9 at e2
     rw [List.getElem?_map] at e2
     cases hc:caps[i]? with
     | none=>rw [hc] at e2; cases e2
     | some o=>
       rw [hc] at e2
       cases o with
       | none=>cases e2
       | some j=>
         have e2':(σ[j]?).join=some v:=Option.some.inj e2
         have e4:σ[j]?=some (some v):=by
           cases q:σ[j]? with
           | none=>rw [q] at e2'; cases e2'
           | some y=>rw [q] at e2'; exact congrArg some e2'
         obtain ⟨x',g1,g2,g3⟩:=c.cap i j hc
         rw [show (aC X s H scope N fp).N=N from rfl,g1] at e1
         cases e1
         have hkc:=c.fre _ g3 rfl
         obtain ⟨m,_,hl⟩:=I.loc
         obtain ⟨u,ru,look⟩:=hl j x v g2 e4 (.inr (.inl hkc))
         refine ⟨u,ru,?_⟩
         rcases look with ⟨k,_⟩ | ⟨k,d,hd,hcell⟩
         · rw [hkc] at k; cases k
         · have e5:(aC X s H scope N fp).env.cells.lookup x=some d:=by
             show (cellsFrom _ scope.names _).lookup x=_
             rw [gN _ _ _ x (c.one x g3)]
             exact bY X.env scope.names [] x d (λy e z=>by simp at z) hd (.inl g3)
           have hcell':Heap.IsCell (pushCells ((s.heap.push { cls:=.type "list",data:=.seq ([]:List Value).toArray }).push { cls:=.type "dict",data:=.dict #[] }) scope.names) d (some u):=by
             obtain ⟨o,q1,q2⟩:=hcell
             exact ⟨o,kp _ _ q1,q2⟩
           refine .inr ⟨?_,d,e5,hcell'⟩
           rcases e3 with e3 | e3 | e3
           · exfalso
             rcases cQ (λy hy=>c.fre _ hy rfl) I.ok.kind (show (scope.names.map _).lookup x=some .local from e3) with q | q
             · have q1:=c.loc _ q rfl
               exact c.noboth x g3 q
             · cases q.2
           · exact .inl e3
           · exact .inr e3
   · exfalso
     obtain ⟨z,z1,z2⟩:=c.acc
     have hl:i < N.length:=(List.getElem?_eq_some_iff.mp e1).1
     have:i=caps.length:=by have:=c.len; omega
     subst this
     rw [show (aC X s H scope N fp).N=N from rfl,z1] at e1
     cases e1
     exact z2 e3
 · rw [show (aC X s H scope N fp).env.cells=cellsFrom (s.heap.objs.size + 1 + 1) scope.names (bT X.env scope.names []) from rfl,<- sz2] at e
   refine ji scope.names _ _ (λy d' q=>?_) x d e
   obtain ⟨v,o,q1,q2⟩:=I.cell y d' (hcl y d' q)
   exact ⟨v,o,Heap.get?_push_of_some _ (Heap.get?_push_of_some _ q1),q2⟩
 · exact fr _ (Nat.le_succ _) (Nat.succ_ne_self _)
 · rcases cel x d e with q | q
   · exact fr d (by omega) (by intro z; omega)
   · rw [aD (Nat.ne_of_lt (oldc x d q))]; exact I.freeC x d q
 · exact I.hok.laid kp (Nat.le_refl _) ⟨Nat.zero_le _,[],0,.nil,hD⟩
 · rw [List.length_append]
   unfold d9
   rw [List.length_map,show (aC X s H scope N fp).N=N from rfl,c.len]
   rfl
end
noncomputable def PTs (X:Cx) (ifs:List Expr) (t:TT):Prop:=
 ∀ (pins:List (Addr × Obj)) (s:Shared) (σ:L2.St) (H:Hp) (Q:Bool->Hp->Prop),Inv X pins σ H s->t σ H Q ->
   wpAny (model X.prog X.w) X.A (forIn ifs true λc r=>if r=true then do let ok <- isTrue c X.env (eval c X.env); pure (ForInStep.yield ok) else pure (ForInStep.yield r)) (TP X pins σ Q) X.xe s
section
variable {prog:Program} {w:World} {A:Around} {R:Result->Shared->Prop} {s:Shared}
theorem gh {elt target iter:Expr} {ifs:List Expr} {scope:Scope} {pos:Pos} {it acc:Value} {env:PySem.Env} (Iv:Nat->Shared->Prop)
   (step:∀ n s,Iv n s->wpAny (model prog w) A (pyNext it) (λr s₁=>match r with
     | none=>R (.ok .next) s₁
     | some v=>wpAny (model prog w) A (letOwnedTupleGo target it v) (λ_ s₀=>wpAny (model prog w) A (assign target env v) (λ_ s₂=>
         wpAny (model prog w) A (forIn ifs true λc r=>if r=true then do let ok <- isTrue c env (eval c env); pure (ForInStep.yield ok) else pure (ForInStep.yield r)) (λok s₃=>
           if ok=true then wpAny (model prog w) A (eval elt env) (λx s₄=>
             wpAny (model prog w) A (call (.builtin "list.append") [acc,x]) (λ_ s₅=>∃ m,m < n/\Iv m s₅) (λ_ _=>False) s₄) (λ_ _=>False) s₃
           else ∃ m,m < n/\Iv m s₃) (λ_ _=>False) s₂) (λ_ _=>False) s₀) (λ_ _=>False) s₁) (λ_ _=>False) s)
   (n:Nat) (h:Iv n s):codeAny (model prog w) A (.compLoop (.ListComp elt [⟨target,iter,ifs,0⟩] scope pos) 0 it acc env) R s:=by
 have no:∀ {α:Type} {t:Sem α} {Q:α->Shared->Prop} {s:Shared} {E:Value->Shared->Prop},wpAny (model prog w) A t Q (λ_ _=>False) s->wpAny (model prog w) A t Q E s:=λh=>wpAny_mono h (λ_ _ q=>q) λ_ _ q=>q.elim
 refine codeAny_loop rfl Iv (λn s hI=>?_) n h
 show wpAny _ A (Sem.onRaise (compTurn (.ListComp elt [⟨target,iter,ifs,0⟩] scope pos) 0 it acc env) (λx=>do noteFrame x env; theTreesLotGoes x)) _ _ s
 refine wpAny_noted ?_
 rw [compTurn_list]
 refine wpAny_bind (wpAny_standAt (wpAny_bind (thn (no (step n s hI)) λr s₁ h₁=>?_)))
 cases r with
 | none=>exact wpAny_pure h₁
 | some v=>
   refine wpAny_bind (thn (no h₁) λ_ s₀ h₀=>wpAny_bind (thn (no h₀) λ_ s₂ h₂=>wpAny_bind (thn (no h₂) λok s₃ h₃=>?_)))
   cases ok with
   | false=>exact wpAny_pure ⟨rfl,h₃⟩
   | true=>exact wpAny_bind (wpAny_bind (thn (no h₃) λx s₄ h₄=>wpAny_bind (thn (no h₄) λ_ s₅ h₅=>wpAny_pure (wpAny_pure ⟨rfl,h₅⟩))))
end
theorem mM {X:Cx} {kd:Bool} {pins:List (Addr × Obj)} {σ:L2.St} {H:Hp} {s:Shared} {scope:Scope} {N:List Str} {fp:List Addr} (h:Ck kd X) (I:Inv X pins σ H s):Ck kd (aC X s H scope N fp):=by
 rcases h with h | ⟨hk,q,o,u,vs,e1,e2,e3,e4⟩
 · exact .inl h
 · exact .inr ⟨hk,q,o,u,vs,e1,I.base.frzs q o u e2,e3,e4⟩
noncomputable def cW (In:TG->TT->TE->Prop) (caps:List (Option Nat)) (wi:TI):TE:=λσ H Q=>wi σ H λJ H1=>∃ g tt te,In g tt te/\∀ D,H1 D=none ->
 ∃ Z:Nat->Nat->L2.St->Hp->Prop,(∃ m,Z 0 m (d9 σ caps++[some (.ref D)]) (upd H1 D (.lst [])))/\∀ i m σ' H',Z i m σ' H' ->
   (J.stop i H'/\Q (.ref D) H')\/(J.go i H'/\∀ x H2,J.yld i H' x H2->g x σ' H2 λσ2 H3=>tt σ2 H3 λb H4=>
     if b=true then te σ2 H4 λv H5=>∃ vs m',H5 D=some (.lst vs)/\vs.length < sizeLine/\m' < m/\Z (i + 1) m' σ2 (upd H5 D (.lst (vs++[v]))) else ∃ m',m' < m/\Z (i + 1) m' σ2 H4)
theorem bU {X:Cx} {elt tg iter:Expr} {ifs:List Expr} {scope:Scope} {N:List Str} {caps:List (Option Nat)} {pos:Pos} {wi:TI} {In:TG->TT->TE->Prop} (c:cC X scope N caps) (hi:PI X tg iter wi)
   (hs:∀ x,foldedSetIterable iter X.env x=pure x)
   (hin:∀ g tt te,In g tt te->∀ s H fp,PG (aC X s H scope N fp) tg g/\PTs (aC X s H scope N fp) ifs tt/\PE (aC X s H scope N fp) elt te) :
   PE X (.ListComp elt [⟨tg,iter,ifs,0⟩] scope pos) (cW In caps wi):=by
 intro pins s σ H Q I h
 rw [eval_ListComp]
 have hcl:=mw (eC I c)
 refine wpAny_comprehension_free (use:=none) (g:=⟨tg,iter,ifs,0⟩) (gs:=[]) rfl hs hcl c.kind c.loc ?_
 show wpAny _ _ (eval iter X.env) _ _ s
 refine thn (hi pins s σ H _ I h) λv s1 h1=>thn h1 λitv s2 h2=>?_
 obtain ⟨kd,it,fp,tn,J,H2,e,I2,hck,T,st2,f2,g,tt,te,hI,q⟩:=h2
 have hc:=mM (scope:=scope) (N:=N) (fp:=fp) hck I2
 subst e
 obtain ⟨Z,⟨m0,z0⟩,turn⟩:=q s2.heap.objs.size (I2.hok.fresh (Nat.le_refl _))
 have ho:∀ b ∈ fp,∃ o,s2.heap.get? b=some o:=λb hb=>let ⟨o,e,_⟩:=T.obj _ _ st2 b hb; ⟨o,e⟩
 have I4:=jS (scope:=scope) (N:=N) (caps:=caps) I2 f2 ho c
 obtain ⟨hg,ht,he⟩:=hin g tt te hI s2 H2 fp
 refine wpAny_newObj_type (iV ?_) (by show 0<=sizeLine; decide)
 have hC:(s2.heap.push { cls:=.type "list",dict:=none,data:=.seq ([]:List Value).toArray }).objs.size=s2.heap.objs.size + 1:=Heap.size_push ..
 dsimp only
 rw [hC]
 have kp:∀ b o,s2.heap.get? b=some o->(pushCells ((s2.heap.push { cls:=.type "list",data:=.seq ([]:List Value).toArray }).push { cls:=.type "dict",data:=.dict #[] }) scope.names).get? b=some o:=λb o e=>
   pushCells_keeps _ _ b o (Heap.get?_push_of_some _ (Heap.get?_push_of_some _ e))
 have st4:tn 0 (pushCells ((s2.heap.push { cls:=.type "list",data:=.seq ([]:List Value).toArray }).push { cls:=.type "dict",data:=.dict #[] }) scope.names):=T.keep _ _ _ st2 λb _ o e=>kp b o e
 have stat:∀ {H':Hp},(∀ b ∈ fp,H' b=none)->∀ b ∈ fp,hU (aC X s2 H2 scope N fp) [] H' b:=λhn b hb=>
   ⟨hn b hb,(I4.ok.exf b hb).1,I4.ok.exfs b hb,.inl hb,(I4.ok.exf b hb).2,λp hp=>absurd (show p ∈ ([]:List (Addr × Obj)) from hp) (by simp)⟩
 have fr4:∀ b ∈ fp,(upd H2 s2.heap.objs.size (.lst [])) b=none:=λb hb=>by
   obtain ⟨o,e⟩:=ho b hb
   rw [aD (Nat.ne_of_lt (Heap.lt_size e))]; exact (f2 b hb).1
 have loop:codeAny (model X.prog X.w) X.A (.compLoop (.ListComp elt [⟨tg,iter,ifs,0⟩] scope pos) 0 (.ref it) (.ref s2.heap.objs.size) (aC X s2 H2 scope N fp).env)
     (compPost (model X.prog X.w) X.A X.xe none (EP X pins σ Q) (.ref s2.heap.objs.size) (s2.heap.objs.size + 1))
     { s2 with heap:=pushCells ((s2.heap.push { cls:=.type "list",data:=.seq ([]:List Value).toArray }).push { cls:=.type "dict",data:=.dict #[] }) scope.names }:=by
   refine gh (λn s'=>∃ i σ' H',Inv (aC X s2 H2 scope N fp) [] σ' H' s'/\tn i s'.heap/\(∀ b ∈ fp,H' b=none)/\Z i n σ' H') ?_ m0 ⟨0,_,_,I4,st4,fr4,z0⟩
   rintro n s3 ⟨i,σ3,H3,I3,st3,fr3,w3⟩
   rcases turn i n σ3 H3 w3 with ⟨stop,qn⟩ | ⟨go,step⟩
   · refine thn (T.done (aC X s2 H2 scope N fp) rfl rfl rfl hc i [] s3 σ3 H3 _ I3 (stat fr3) st3 stop) λr s5 ⟨hr,I5⟩=>?_
     subst hr
     obtain ⟨m,hn,_⟩:=id I5.loc
     refine ⟨m,hn,λh' sb=>⟨.ref s2.heap.objs.size,H3,?_,rfl,qn⟩⟩
     have lt:∀ b o,s2.heap.get? b=some o->b ≠ s2.heap.objs.size + 1:=λb o e=>Nat.ne_of_lt (Nat.lt_succ_of_lt (Heap.lt_size e))
     have u:=I5.base
     have u':Un (frs X.stack) fp H2 H3 s2.heap h':=⟨λb o e n1 n2 n3=>(sb.2 b (lt b o e)).trans (u.keep b o e n1 n2 n3),λb o e n1 n2 n3=>let ⟨sl,z⟩:=u.slot b o e n1 n2 n3; ⟨sl,(sb.2 b (lt b o e)).trans z⟩,
       u.free,λb o e n1=>let ⟨o',z⟩:=u.there b o e n1; ⟨o',(sb.2 b (lt b o e)).trans z⟩,u.tups,u.frzs,u.tbls⟩
     have fC:H3 (s2.heap.objs.size + 1)=none:=I5.free
     refine I2.rH (s':={ s5 with heap:=h' }) I5.os u' (λb o e=>(I5.hok b o e).gm (λd v hd z=>(sb.2 d ?_).trans z) (λ_ z=>z) λ_ _ z=>z) I5.bare λb hb=>⟨(f2 b hb).2.2.2.1,(f2 b hb).2.1,(f2 b hb).2.2.2.2.1,(f2 b hb).2.2.2.2.2⟩
     rcases hd with hd | hd
     · rw [hd]; exact aJ e fC
     · exact aJ hd fC
   · refine thn (T.item (aC X s2 H2 scope N fp) rfl rfl rfl hc i [] s3 σ3 H3 _ I3 (stat fr3) st3 go) λr s4 ⟨u,hr,h4⟩=>?_
     subst hr
     refine thn h4 λ_ s5 ⟨x,H5,I5,r5,y5,st5,fr5⟩=>?_
     have I5':=I5.pinned (stat fr5) (T.obj _ _ st5)
     refine thn (hg _ s5 σ3 H5 x u _ I5' r5 (step x H5 y5)) λ_ s6 ⟨σ6,H6,I6,q6⟩=>?_
     have again:∀ {s7:Shared} {σ7:L2.St} {H7:Hp} {m':Nat},Inv (aC X s2 H2 scope N fp) ([]++eE fp s5.heap) σ7 H7 s7->m' < n->Z (i + 1) m' σ7 H7 ->
         ∃ m,m < n/\∃ i σ' H',Inv (aC X s2 H2 scope N fp) [] σ' H' s7/\tn i s7.heap/\(∀ b ∈ fp,H' b=none)/\Z i m σ' H':=λ{s7 σ7 H7 m'} I7 hm z7=>by
       refine ⟨m',hm,i + 1,σ7,H7,I7.cA,T.keep _ _ _ st5 λb hb o e=>(I7.pin (b,o) (List.mem_append_right _ (List.mem_append_right _ (br hb e)))).1,λb hb=>?_,z7⟩
       obtain ⟨o,e,d⟩:=T.obj _ _ st5 b hb
       exact (I7.pin (b,o) (List.mem_append_right _ (List.mem_append_right _ (br hb e)))).2.1
     refine thn (ht _ s6 σ6 H6 _ I6 q6) λok s7 ⟨H7,I7,q7⟩=>?_
     cases ok with
     | false=>
       rw [if_neg (by decide)] at q7
       obtain ⟨m',hm,z7⟩:=q7
       exact again I7 hm z7
     | true=>
       rw [if_pos rfl] at q7
       refine thn (he _ s7 σ6 H7 _ I7 q7) λv' s8 ⟨v,H8,I8,r8,vs,m',q8,l8,hm,z8⟩=>?_
       refine thn (fK (X:=aC X s2 H2 scope N fp) _ s8 σ6 H8 (.ref s2.heap.objs.size) [v] (.ref s2.heap.objs.size) [v'] (λ_ H9=>H9=upd H8 s2.heap.objs.size (.lst (vs++[v]))) I8 rfl (.cons r8 .nil) ⟨_,vs,v,rfl,rfl,q8,l8,rfl⟩) λ_ s9 ⟨_,H9,I9,_,e9⟩=>?_
       subst e9
       exact again I9 hm z8
 exact codeAny_compStart_list loop (T.self _ 0 _ _ _ st4 loop)
theorem kE {X:Cx} {gT:TG} {y:Str} {py spos:Pos} {elt tg iter:Expr} {ifs:List Expr} {scope:Scope} {N:List Str} {caps:List (Option Nat)} {pos:Pos} {wi:TI} {In:TG->TT->TE->Prop} (hT:PG X (.Name y py) gT) (c:cC X scope N caps) (hi:PI X tg iter wi)
   (hs:∀ x,foldedSetIterable iter X.env x=pure x)
   (hin:∀ g tt te,In g tt te->∀ s H fp,PG (aC X s H scope N fp) tg g/\PTs (aC X s H scope N fp) ifs tt/\PE (aC X s H scope N fp) elt te)
   (hsw:swapsWith (.ListComp elt [⟨tg,iter,ifs,0⟩] scope pos) (some (.Name y py)) spos.line X.env=pure true) :
   PS X (.Assign [.Name y py] (.ListComp elt [⟨tg,iter,ifs,0⟩] scope pos) spos) (sA (cW In caps wi) gT):=by
 intro pins s σ H D I h
 rw [exec_Assign_Name_used _ _ _ _ hsw]
 refine wpAny_bind (wpAny_standAt (wpAny_bind ?_))
 show wpAny _ _ (do let _ <- comprehension (.ListComp elt [⟨tg,iter,ifs,0⟩] scope pos) scope X.env _ (newList []) false _ (some (assign (.Name y py) X.env))) _ _ s
 refine wpAny_bind ?_
 have hcl:=mw (eC I c)
 refine wpAny_comprehension_free (use:=some (assign (.Name y py) X.env)) (Q:=λ_ s'=>wpAny (model X.prog X.w) X.A (pure ()) (λ_ s''=>wpAny (model X.prog X.w) X.A (pure Flow.next) (SP X pins D) X.xe s'') X.xe s') (g:=⟨tg,iter,ifs,0⟩) (gs:=[]) rfl hs hcl c.kind c.loc ?_
 show wpAny _ _ (eval iter X.env) _ _ s
 refine thn (hi pins s σ H _ I h) λv s1 h1=>thn h1 λitv s2 h2=>?_
 obtain ⟨kd,it,fp,tn,J,H2,e,I2,hck,T,st2,f2,g,tt,te,hI,q⟩:=h2
 have hc:=mM (scope:=scope) (N:=N) (fp:=fp) hck I2
 subst e
 obtain ⟨Z,⟨m0,z0⟩,turn⟩:=q s2.heap.objs.size (I2.hok.fresh (Nat.le_refl _))
 have ho:∀ b ∈ fp,∃ o,s2.heap.get? b=some o:=λb hb=>let ⟨o,e,_⟩:=T.obj _ _ st2 b hb; ⟨o,e⟩
 have I4:=jS (scope:=scope) (N:=N) (caps:=caps) I2 f2 ho c
 obtain ⟨hg,ht,he⟩:=hin g tt te hI s2 H2 fp
 refine wpAny_newObj_type (iV ?_) (by show 0<=sizeLine; decide)
 have hC:(s2.heap.push { cls:=.type "list",dict:=none,data:=.seq ([]:List Value).toArray }).objs.size=s2.heap.objs.size + 1:=Heap.size_push ..
 dsimp only
 rw [hC]
 have kp:∀ b o,s2.heap.get? b=some o->(pushCells ((s2.heap.push { cls:=.type "list",data:=.seq ([]:List Value).toArray }).push { cls:=.type "dict",data:=.dict #[] }) scope.names).get? b=some o:=λb o e=>
   pushCells_keeps _ _ b o (Heap.get?_push_of_some _ (Heap.get?_push_of_some _ e))
 have st4:tn 0 (pushCells ((s2.heap.push { cls:=.type "list",data:=.seq ([]:List Value).toArray }).push { cls:=.type "dict",data:=.dict #[] }) scope.names):=T.keep _ _ _ st2 λb _ o e=>kp b o e
 have stat:∀ {H':Hp},(∀ b ∈ fp,H' b=none)->∀ b ∈ fp,hU (aC X s2 H2 scope N fp) [] H' b:=λhn b hb=>
   ⟨hn b hb,(I4.ok.exf b hb).1,I4.ok.exfs b hb,.inl hb,(I4.ok.exf b hb).2,λp hp=>absurd (show p ∈ ([]:List (Addr × Obj)) from hp) (by simp)⟩
 have fr4:∀ b ∈ fp,(upd H2 s2.heap.objs.size (.lst [])) b=none:=λb hb=>by
   obtain ⟨o,e⟩:=ho b hb
   rw [aD (Nat.ne_of_lt (Heap.lt_size e))]; exact (f2 b hb).1
 have loop:codeAny (model X.prog X.w) X.A (.compLoop (.ListComp elt [⟨tg,iter,ifs,0⟩] scope pos) 0 (.ref it) (.ref s2.heap.objs.size) (aC X s2 H2 scope N fp).env)
     (compPost (model X.prog X.w) X.A X.xe (some (assign (.Name y py) X.env)) (λ_ s'=>wpAny (model X.prog X.w) X.A (pure ()) (λ_ s''=>wpAny (model X.prog X.w) X.A (pure Flow.next) (SP X pins D) X.xe s'') X.xe s') (.ref s2.heap.objs.size) (s2.heap.objs.size + 1))
     { s2 with heap:=pushCells ((s2.heap.push { cls:=.type "list",data:=.seq ([]:List Value).toArray }).push { cls:=.type "dict",data:=.dict #[] }) scope.names }:=by
   refine gh (λn s'=>∃ i σ' H',Inv (aC X s2 H2 scope N fp) [] σ' H' s'/\tn i s'.heap/\(∀ b ∈ fp,H' b=none)/\Z i n σ' H') ?_ m0 ⟨0,_,_,I4,st4,fr4,z0⟩
   rintro n s3 ⟨i,σ3,H3,I3,st3,fr3,w3⟩
   rcases turn i n σ3 H3 w3 with ⟨stop,qn⟩ | ⟨go,step⟩
   · refine thn (T.done (aC X s2 H2 scope N fp) rfl rfl rfl hc i [] s3 σ3 H3 _ I3 (stat fr3) st3 stop) λr s5 ⟨hr,I5⟩=>?_
     subst hr
     obtain ⟨m,hn,_⟩:=id I5.loc
     have I6:Inv X pins σ H3 s5:=by
       have lt:∀ b o,s2.heap.get? b=some o->b ≠ s2.heap.objs.size + 1:=λb o e=>Nat.ne_of_lt (Nat.lt_succ_of_lt (Heap.lt_size e))
       have u:=I5.base
       have u':Un (frs X.stack) fp H2 H3 s2.heap s5.heap:=⟨λb o e n1 n2 n3=>u.keep b o e n1 n2 n3,λb o e n1 n2 n3=>u.slot b o e n1 n2 n3,u.free,λb o e n1=>u.there b o e n1,u.tups,u.frzs,u.tbls⟩
       exact I2.rH (s':=s5) I5.os u' I5.hok I5.bare λb hb=>⟨(f2 b hb).2.2.2.1,(f2 b hb).2.1,(f2 b hb).2.2.2.2.1,(f2 b hb).2.2.2.2.2⟩
     have fC:H3 (s2.heap.objs.size + 1)=none:=I5.free
     have fk:hU X pins H3 (s2.heap.objs.size + 1):=I2.j8 (Nat.le_succ _) fC
     obtain ⟨oC,es,ep,hoC,hdC,rC⟩:=id hn
     have hpin:=I6.pinned (fp:=[s2.heap.objs.size + 1]) (λb hb=>by rw [List.mem_singleton.mp hb]; exact fk) (λb hb=>by rw [List.mem_singleton.mp hb]; exact ⟨oC,hoC,λv z=>by rw [hdC] at z; cases z⟩)
     have hmem:(s2.heap.objs.size + 1,oC) ∈ eE [s2.heap.objs.size + 1] s5.heap:=br (List.mem_singleton_self _) hoC
     refine thn (hT _ s5 σ H3 (.ref s2.heap.objs.size) (.ref s2.heap.objs.size) _ hpin rfl qn) λ_ s6 ⟨σ6,H6,I7,q7⟩=>?_
     obtain ⟨p1,p2,p3,p4,p5⟩:=I7.pin _ (List.mem_append_right _ (List.mem_append_right _ hmem))
     refine ⟨m,⟨oC,es,ep,p1,hdC,rC⟩,λh' sb=>wpAny_pure (wpAny_pure ?_)⟩
     refine ⟨σ6,H6,?_,q7⟩
     exact (I7.cA).turned (t':=s6.toks) (it:=s2.heap.objs.size + 1) (λb o hb e=>(sb.2 b hb).trans e) p2 p3 fk.2.2.2.1 fk.2.2.2.2.1 fk.2.2.2.2.2
   · refine thn (T.item (aC X s2 H2 scope N fp) rfl rfl rfl hc i [] s3 σ3 H3 _ I3 (stat fr3) st3 go) λr s4 ⟨u,hr,h4⟩=>?_
     subst hr
     refine thn h4 λ_ s5 ⟨x,H5,I5,r5,y5,st5,fr5⟩=>?_
     have I5':=I5.pinned (stat fr5) (T.obj _ _ st5)
     refine thn (hg _ s5 σ3 H5 x u _ I5' r5 (step x H5 y5)) λ_ s6 ⟨σ6,H6,I6,q6⟩=>?_
     have again:∀ {s7:Shared} {σ7:L2.St} {H7:Hp} {m':Nat},Inv (aC X s2 H2 scope N fp) ([]++eE fp s5.heap) σ7 H7 s7->m' < n->Z (i + 1) m' σ7 H7 ->
         ∃ m,m < n/\∃ i σ' H',Inv (aC X s2 H2 scope N fp) [] σ' H' s7/\tn i s7.heap/\(∀ b ∈ fp,H' b=none)/\Z i m σ' H':=λ{s7 σ7 H7 m'} I7 hm z7=>by
       refine ⟨m',hm,i + 1,σ7,H7,I7.cA,T.keep _ _ _ st5 λb hb o e=>(I7.pin (b,o) (List.mem_append_right _ (List.mem_append_right _ (br hb e)))).1,λb hb=>?_,z7⟩
       obtain ⟨o,e,d⟩:=T.obj _ _ st5 b hb
       exact (I7.pin (b,o) (List.mem_append_right _ (List.mem_append_right _ (br hb e)))).2.1
     refine thn (ht _ s6 σ6 H6 _ I6 q6) λok s7 ⟨H7,I7,q7⟩=>?_
     cases ok with
     | false=>
       rw [if_neg (by decide)] at q7
       obtain ⟨m',hm,z7⟩:=q7
       exact again I7 hm z7
     | true=>
       rw [if_pos rfl] at q7
       refine thn (he _ s7 σ6 H7 _ I7 q7) λv' s8 ⟨v,H8,I8,r8,vs,m',q8,l8,hm,z8⟩=>?_
       refine thn (fK (X:=aC X s2 H2 scope N fp) _ s8 σ6 H8 (.ref s2.heap.objs.size) [v] (.ref s2.heap.objs.size) [v'] (λ_ H9=>H9=upd H8 s2.heap.objs.size (.lst (vs++[v]))) I8 rfl (.cons r8 .nil) ⟨_,vs,v,rfl,rfl,q8,l8,rfl⟩) λ_ s9 ⟨_,H9,I9,_,e9⟩=>?_
       subst e9
       exact again I9 hm z8
 exact codeAny_compStart_list loop (T.self _ 0 _ _ _ st4 loop)
end Ev
namespace Hy
open PySem PySem.Spec PyProof.Rows L2
open Ev (D Den ar)
open Classical in
noncomputable def hd (H:Hp) (M:Addr->Prop):Hp:=λb=>if M b then none else H b
theorem aB {H:Hp} {M:Addr->Prop} {b:Addr} {o:HO}:hd H M b=some o ↔ ¬ M b/\H b=some o:=by
 unfold hd
 by_cases h:M b
 · rw [if_pos h]; exact ⟨λz=>(nomatch z),λz=>absurd h z.1⟩
 · rw [if_neg h]; exact ⟨λz=>⟨h,z⟩,λz=>z.2⟩
theorem ay {H H':Hp} {M M':Addr->Prop} (e:aq H H') (m:∀ b,M' b->M b):aq (hd H M) (hd H' M'):=λb _ h=>aB.mpr ⟨λz=>(aB.mp h).1 (m b z),e b _ (aB.mp h).2⟩
theorem aI {H:Hp} {M:Addr->Prop}:aq (hd H M) H:=λ_ _ h=>(aB.mp h).2
inductive Nd where
 | d (x:D) | l (xs:List Nd) | t (xs:List Nd)
structure Ex where
 p:PySem.W.Frag->Hp->HO->Addr->Prop
 mono:∀ {K:PySem.W.Frag} {G G':Hp} {o:HO} {a:Addr},aq G G'->p K G o a->p K G' o a
 ext:∀ {K:PySem.W.Frag} {G:Hp} {o:HO} {a:Addr},p K G o a->(∃ φ,o=.ext φ)\/(∃ ob φ,o=.frz ob (.ext φ))\/∃ kvs,o=.dK kvs\/∃ ob,o=.frz ob (.dK kvs)
inductive Sl where
 | un | d (x:D) | o (xs:List D) | n (t:Nd) | x (E:Ex)
mutual
inductive da (K:PySem.W.Frag) (G H:Hp):V->List Addr->Nd->Prop where
 | d {u:V} {x:D} (h:Den K G u x):da K G H u [] (.d x)
 | l {a:Addr} {vs:List V} {bs:List Addr} {xs:List Nd} (h:H a=some (.lst vs)) (r:bg K G H vs bs xs):da K G H (.ref a) (a :: bs) (.l xs)
 | t {a:Addr} {vs:List V} {bs:List Addr} {xs:List Nd} (h:H a=some (.tup vs)) (r:bg K G H vs bs xs):da K G H (.ref a) (a :: bs) (.t xs)
inductive bg (K:PySem.W.Frag) (G H:Hp):List V->List Addr->List Nd->Prop where
 | nil:bg K G H [] [] []
 | cons {v:V} {vs:List V} {b1 b2:List Addr} {s:Nd} {ss:List Nd} (h:da K G H v b1 s) (r:bg K G H vs b2 ss):bg K G H (v :: vs) (b1++b2) (s :: ss)
end
noncomputable def cK (K:PySem.W.Frag) (G H:Hp) (v:Option V) (bs:List Addr):Sl->Prop
 | .un=>bs=[]
 | .d x=>bs=[]/\∃ u,v=some u/\Den K G u x
 | .o xs=>∃ a vs,bs=[a]/\v=some (.ref a)/\H a=some (.lst vs)/\ar K G vs xs
 | .n t=>bs.Nodup/\∃ u,v=some u/\da K G H u bs t
 | .x E=>∃ a o,bs=[a]/\v=some (.ref a)/\H a=some o/\E.p K G o a
section
variable {K:PySem.W.Frag} {G G' H H':Hp}
mutual
theorem da.frame (g:aq G G'):∀ {u:V} {bs:List Addr} {t:Nd},(∀ b ∈ bs,H' b=H b)->da K G H u bs t->da K G' H' u bs t
 | _,_,_,_,.d h=>.d (h.mono g)
 | _,_,_,e,.l h r=>.l (by rw [e _ (List.mem_cons_self ..)]; exact h) (bg.frame g (λb hb=>e b (List.mem_cons_of_mem _ hb)) r)
 | _,_,_,e,.t h r=>.t (by rw [e _ (List.mem_cons_self ..)]; exact h) (bg.frame g (λb hb=>e b (List.mem_cons_of_mem _ hb)) r)
theorem bg.frame (g:aq G G'):∀ {vs:List V} {bs:List Addr} {xs:List Nd},(∀ b ∈ bs,H' b=H b)->bg K G H vs bs xs->bg K G' H' vs bs xs
 | _,_,_,_,.nil=>.nil
 | _,_,_,e,.cons h r=>.cons (da.frame g (λb hb=>e b (List.mem_append_left _ hb)) h) (bg.frame g (λb hb=>e b (List.mem_append_right _ hb)) r)
end
mutual
theorem da.some_of:∀ {u:V} {bs:List Addr} {t:Nd},da K G H u bs t->∀ b ∈ bs,∃ o,H b=some o
 | _,_,_,.d _,_,z=>nomatch z
 | _,_,_,.l h r,b,z=>(List.mem_cons.mp z).elim (λe=>e ▸ ⟨_,h⟩) λz=>bg.some_of r b z
 | _,_,_,.t h r,b,z=>(List.mem_cons.mp z).elim (λe=>e ▸ ⟨_,h⟩) λz=>bg.some_of r b z
theorem bg.some_of:∀ {vs:List V} {bs:List Addr} {xs:List Nd},bg K G H vs bs xs->∀ b ∈ bs,∃ o,H b=some o
 | _,_,_,.nil,_,z=>nomatch z
 | _,_,_,.cons h r,b,z=>(List.mem_append.mp z).elim (λz=>da.some_of h b z) λz=>bg.some_of r b z
end
theorem da.mono (g:aq G G') (e:aq H H') {u:V} {bs:List Addr} {t:Nd} (h:da K G H u bs t):da K G' H' u bs t:=h.frame g λb hb=>by
 obtain ⟨o,q⟩:=h.some_of b hb
 rw [q,e b o q]
theorem cK.mono (g:aq G G') (e:aq H H') {v:Option V} {bs:List Addr}:∀ {s:Sl},cK K G H v bs s->cK K G' H' v bs s
 | .un,h=>h
 | .d _,⟨h,u,e1,h2⟩=>⟨h,u,e1,h2.mono g⟩
 | .o _,⟨a,vs,h1,h2,h3,h4⟩=>⟨a,vs,h1,h2,e _ _ h3,h4.mono g⟩
 | .n _,⟨h0,u,h1,h2⟩=>⟨h0,u,h1,h2.mono g e⟩
 | .x E,⟨a,o,h1,h2,h3,h4⟩=>⟨a,o,h1,h2,e _ _ h3,E.mono g h4⟩
end
noncomputable def own (A:Addr->Prop) (B:Nat->List Addr) (b:Addr):Prop:=A b\/∃ i,b ∈ B i
noncomputable def vw (C:Bool) (A:Addr->Prop) (B:Nat->List Addr):Addr->Prop:=match C with
 | true=>own A B
 | false=>A
structure Sta (K:PySem.W.Frag) (A:Addr->Prop) (H₀:Hp) (τ:List Sl) (B:Nat->List Addr) (σ:L2.St) (H:Hp):Prop where
 same:aq H₀ H
 len:σ.length=τ.length
 sl:∀ i s,τ[i]?=some s->cK K (hd H (own A B)) H (σ[i]?).join (B i) s
 fr:∀ i b,b ∈ B i->H₀ b=none
 uq:∀ i j b,b ∈ B i->b ∈ B j->i=j
 ad:∀ b,A b->∃ o,H₀ b=some o
 bd:∀ i b,b ∈ B i->∃ o,H b=some o
noncomputable def upB (B:Nat->List Addr) (i:Nat) (bs:List Addr):Nat->List Addr:=λj=>if j=i then bs else B j
section
variable {K:PySem.W.Frag} {A:Addr->Prop} {H₀ H H':Hp} {τ:List Sl} {B:Nat->List Addr} {σ:L2.St}
theorem Sta.dm (S:Sta K A H₀ τ B σ H) (b:Addr) (h:own A B b):∃ o,H b=some o:=h.elim (λz=>let ⟨o,q⟩:=S.ad b z; ⟨o,S.same _ _ q⟩) λ⟨i,z⟩=>S.bd i b z
theorem Sta.mono (S:Sta K A H₀ τ B σ H) (e:aq H H'):Sta K A H₀ τ B σ H' where
 same:=S.same.trans e
 len:=S.len
 sl:=λi s h=>(S.sl i s h).mono (ay e λ_ z=>z) e
 fr:=S.fr
 uq:=S.uq
 ad:=S.ad
 bd:=λi b h=>let ⟨o,q⟩:=S.bd i b h; ⟨o,e _ _ q⟩
theorem ba {i j:Nat} {bs:List Addr} {b:Addr} (h:b ∈ upB B i bs j):(j=i/\b ∈ bs)\/(j ≠ i/\b ∈ B j):=by
 unfold upB at h
 by_cases e:j=i
 · rw [if_pos e] at h; exact .inl ⟨e,h⟩
 · rw [if_neg e] at h; exact .inr ⟨e,h⟩
theorem Sta.set (S:Sta K A H₀ τ B σ H) (e:aq H H') {i:Nat} {v:V} {s:Sl} {bs:List Addr} (hf:∀ b ∈ bs,H b=none/\∃ o,H' b=some o) (h:cK K (hd H' λb=>own A B b\/b ∈ bs) H' (some v) bs s) :
   Sta K A H₀ (τ.set i s) (upB B i bs) (σ.set i (some v)) H':=by
 have sub:∀ b,own A (upB B i bs) b->own A B b\/b ∈ bs:=λb z=>z.elim (λz=>.inl (.inl z)) λ⟨j,z⟩=>(ba z).elim (λz=>.inr z.2) λz=>.inl (.inr ⟨j,z.2⟩)
 have some_of:∀ b j,b ∈ B j->∃ o,H b=some o:=λb j z=>S.dm b (.inr ⟨j,z⟩)
 refine ⟨S.same.trans e,by rw [List.length_set,List.length_set,S.len],λj t hj=>?_,λj b hb=>?_,λj k b h1 h2=>?_,S.ad,λj b hb=>?_⟩
 · by_cases ej:j=i
   · subst ej
     have hl:j < τ.length:=by
       have:=(List.getElem?_eq_some_iff.mp hj).1
       rwa [List.length_set] at this
     rw [List.getElem?_set_self hl] at hj
     cases hj
     rw [List.getElem?_set_self (by rw [S.len]; exact hl)]
     unfold upB
     rw [if_pos rfl]
     exact h.mono (ay (aq.refl _) sub) (aq.refl _)
   · rw [List.getElem?_set_ne (λz=>ej z.symm)] at hj
     rw [List.getElem?_set_ne (λz=>ej z.symm)]
     unfold upB
     rw [if_neg ej]
     have q:=S.sl j t hj
     refine q.mono (λb o z=>?_) e
     obtain ⟨z1,z2⟩:=aB.mp z
     refine aB.mpr ⟨λy=>?_,e _ _ z2⟩
     rcases sub b y with y | y
     · exact z1 y
     · rw [(hf b y).1] at z2; cases z2
 · rcases ba hb with ⟨_,z⟩ | ⟨_,z⟩
   · exact S.same.free (hf b z).1
   · exact S.fr j b z
 · rcases ba h1 with ⟨e1,z1⟩ | ⟨e1,z1⟩ <;> rcases ba h2 with ⟨e2,z2⟩ | ⟨e2,z2⟩
   · exact e1.trans e2.symm
   · obtain ⟨o,q⟩:=some_of b k z2; rw [(hf b z1).1] at q; cases q
   · obtain ⟨o,q⟩:=some_of b j z1; rw [(hf b z2).1] at q; cases q
   · exact S.uq j k b z1 z2
 · rcases ba hb with ⟨_,z⟩ | ⟨_,z⟩
   · exact (hf b z).2
   · obtain ⟨o,q⟩:=S.bd j b z; exact ⟨o,e _ _ q⟩
theorem Sta.less (S:Sta K A H₀ τ B σ H) {i:Nat} {s:Sl} {bs:List Addr} (hb:∀ b ∈ bs,b ∈ B i) (h:∀ G:Hp,aq (hd H (own A B)) G->(∀ b o,b ∈ B i->b ∉ bs->H b=some o->G b=some o)->cK K G H (σ[i]?).join bs s):Sta K A H₀ (τ.set i s) (upB B i bs) σ H:=by
 have sub:∀ b,own A (upB B i bs) b->own A B b:=λb z=>z.elim .inl λ⟨j,z⟩=>(ba z).elim (λz=>.inr ⟨i,hb b z.2⟩) λz=>.inr ⟨j,z.2⟩
 refine ⟨S.same,by rw [List.length_set,S.len],λj t hj=>?_,λj b h=>?_,λj k b h1 h2=>?_,S.ad,λj b h=>(ba h).elim (λz=>S.bd i b (hb b z.2)) λz=>S.bd j b z.2⟩
 · by_cases ej:j=i
   · subst ej
     have hl:j < τ.length:=by
       have:=(List.getElem?_eq_some_iff.mp hj).1
       rwa [List.length_set] at this
     rw [List.getElem?_set_self hl] at hj
     cases hj
     unfold upB
     rw [if_pos rfl]
     refine h _ (ay (aq.refl _) sub) λb o z1 z2 z3=>aB.mpr ⟨λy=>?_,z3⟩
     rcases y with y | ⟨m,y⟩
     · obtain ⟨_,q⟩:=S.ad b y
       rw [S.fr j b z1] at q; cases q
     · rcases ba y with ⟨e,y⟩ | ⟨e,y⟩
       · exact z2 y
       · exact e (S.uq m j b y z1)
   · rw [List.getElem?_set_ne (λz=>ej z.symm)] at hj
     unfold upB
     rw [if_neg ej]
     exact (S.sl j t hj).mono (ay (aq.refl _) sub) (aq.refl _)
 · rcases ba h with ⟨e,z⟩ | ⟨_,z⟩
   · exact S.fr i b (hb b z)
   · exact S.fr j b z
 · rcases ba h1 with ⟨e1,z1⟩ | ⟨e1,z1⟩ <;> rcases ba h2 with ⟨e2,z2⟩ | ⟨e2,z2⟩
   · exact e1.trans e2.symm
   · exact absurd (S.uq k i b z2 (hb b z1)) e2
   · exact absurd (S.uq j i b z1 (hb b z2)) e1
   · exact S.uq j k b z1 z2
end
end Hy
namespace Hy
open PySem PySem.Spec PyProof.Rows L2
open Ev (D Den ar aF aE ah aM aG)
noncomputable def Fr (H H':Hp) (bs:List Addr):Prop:=∀ b ∈ bs,H b=none/\∃ o,H' b=some o
noncomputable def dE (K:PySem.W.Frag) (C:Bool) (τ:List Sl) (s:Sl):TE:=λσ H Q=>∃ A H₀ B,Sta K A H₀ τ B σ H /\
 ∀ v H' bs,aq H H'->Fr H H' bs->cK K (hd H' λb=>vw C A B b\/b ∈ bs) H' (some v) bs s->Q v H'
noncomputable def dA (K:PySem.W.Frag) (C:Bool) (τ:List Sl) (ds:List D):TA:=λσ H Q=>∃ A H₀ B,Sta K A H₀ τ B σ H /\
 ∀ vs H',aq H H'->ar K (hd H' (vw C A B)) vs ds->Q vs H'
noncomputable def dT (K:PySem.W.Frag) (τ:List Sl) (c:Bool):TT:=λσ H Q=>∃ A H₀ B,Sta K A H₀ τ B σ H/\∀ H',aq H H'->Q c H'
structure Po where
 nx:List Sl->Prop
 rt:Sl->Prop
 bk:List Sl->Prop:=λ_=>False
 ct:List Sl->Prop:=λ_=>False
 xc:Hp->Prop:=λ_=>True
structure Meets (K:PySem.W.Frag) (A:Addr->Prop) (H₀:Hp) (N:Po) (D:Ends):Prop where
 nx:∀ τ B σ H,N.nx τ->Sta K A H₀ τ B σ H->D.nx σ H
 bk:∀ τ B σ H,N.bk τ->Sta K A H₀ τ B σ H->D.bk σ H
 ct:∀ τ B σ H,N.ct τ->Sta K A H₀ τ B σ H->D.ct σ H
 rt:∀ v H bs s,N.rt s->aq H₀ H->Fr H₀ H bs->cK K (hd H λb=>A b\/b ∈ bs) H (some v) bs s->D.rt v H
 xc:∀ H,aq H₀ H->N.xc H
noncomputable def dS (K:PySem.W.Frag) (τ:List Sl) (N:Po):TS:=λD σ H=>∃ A H₀ B,Sta K A H₀ τ B σ H/\Meets K A H₀ N D
theorem peW {X:Cx} {e:Expr} {t t':TE} (h:PE X e t) (f:∀ σ H Q,t' σ H Q->t σ H Q):PE X e t':=λpins s σ H Q I q=>h pins s σ H Q I (f σ H Q q)
theorem ptW {X:Cx} {e:Expr} {t t':TT} (h:PT X e t) (f:∀ σ H Q,t' σ H Q->t σ H Q):PT X e t':=λpins s σ H Q I q=>h pins s σ H Q I (f σ H Q q)
theorem pwW {X:Cx} {e:Expr} {t t':TT} (h:PW X e t) (f:∀ σ H Q,t' σ H Q->t σ H Q):PW X e t':=λwh pins s σ H Q I q=>h wh pins s σ H Q I (f σ H Q q)
theorem paW {X:Cx} {e:List Expr} {t t':TA} (h:PA X e t) (f:∀ σ H Q,t' σ H Q->t σ H Q):PA X e t':=λp pins s σ H Q I q=>h p pins s σ H Q I (f σ H Q q)
theorem psW {X:Cx} {e:Stmt} {t t':TS} (h:PS X e t) (f:∀ D σ H,t' D σ H->t D σ H):PS X e t':=λpins s σ H D I q=>h pins s σ H D I (f D σ H q)
theorem nC {X:Cx} {e:List Stmt} {t t':TS} (h:PSs X e t) (f:∀ D σ H,t' D σ H->t D σ H):PSs X e t':=λpins s σ H D I q=>h pins s σ H D I (f D σ H q)
section
variable {K:PySem.W.Frag} {C:Bool} {τ:List Sl} {A:Addr->Prop} {H₀ H H':Hp} {B:Nat->List Addr} {σ:L2.St} {x y z:D} {Q:VK}
theorem jH {b:Addr} (h:vw C A B b):own A B b:=by
 cases C with
 | true=>exact h
 | false=>exact .inl h
theorem Sta.vd (S:Sta K A H₀ τ B σ H) (b:Addr) (h:vw C A B b):∃ o,H b=some o:=S.dm b (jH h)
theorem aQ (S:Sta K A H₀ τ B σ H) (k:∀ v H',aq H H'->Den K (hd H' (vw C A B)) v x->Q v H'):dE K C τ (.d x) σ H Q:=
 ⟨A,H₀,B,S,λv H' bs e _ ⟨hb,u,eu,h⟩=>by
   cases eu
   exact k v H' e (h.mono (ay (aq.refl _) λ_ z=>.inl z))⟩
theorem dg (h:dE K C τ (.d x) σ H Q):∃ A H₀ B,Sta K A H₀ τ B σ H/\∀ v H',aq H H'->Den K (hd H' (vw C A B)) v x->Q v H':=by
 obtain ⟨A,H₀,B,S,k⟩:=h
 exact ⟨A,H₀,B,S,λv H' e d=>k v H' [] e (λ_ z=>nomatch z) ⟨rfl,v,rfl,d.mono (ay (aq.refl _) λ_ z=>z.elim id λz=>nomatch z)⟩⟩
theorem fb {ds:List D} {Q:List V->Hp->Prop} (S:Sta K A H₀ τ B σ H) (k:∀ vs H',aq H H'->ar K (hd H' (vw C A B)) vs ds->Q vs H'):dA K C τ ds σ H Q:=⟨A,H₀,B,S,k⟩
theorem hJ {M:Addr->Prop} {p:Addr} {o:HO} (hM:∀ b,M b->∃ o,H b=some o) (hp:H p=none):hd (upd H p o) M p=some o:=
 aB.mpr ⟨λz=>(by obtain ⟨o,q⟩:=hM p z; rw [hp] at q; cases q),aL⟩
mutual
noncomputable def ndD:Nd->D
 | .d x=>x
 | .l xs=>.lst (qr xs)
 | .t xs=>.tup (qr xs)
noncomputable def qr:List Nd->List D
 | []=>[]
 | x :: xs=>ndD x :: qr xs
end
noncomputable def fzD:Sl->Option D
 | .un=>none
 | .d x=>some x
 | .o xs=>some (.lst xs)
 | .n t=>some (ndD t)
 | .x _=>none
mutual
theorem da.den {G G':Hp} (g:aq G G'):∀ {u:V} {bs:List Addr} {t:Nd},(∀ b ∈ bs,∀ o,H b=some o->G' b=some o)->da K G H u bs t->Den K G' u (ndD t)
 | _,_,_,_,.d h=>h.mono g
 | _,_,_,e,.l h r=>.lst (SqL.of (e _ (List.mem_cons_self ..) _ h)) (bg.den g (λb hb=>e b (List.mem_cons_of_mem _ hb)) r)
 | _,_,_,e,.t h r=>.tup (SqT.of (e _ (List.mem_cons_self ..) _ h)) (bg.den g (λb hb=>e b (List.mem_cons_of_mem _ hb)) r)
theorem bg.den {G G':Hp} (g:aq G G'):∀ {vs:List V} {bs:List Addr} {xs:List Nd},(∀ b ∈ bs,∀ o,H b=some o->G' b=some o)->bg K G H vs bs xs->ar K G' vs (qr xs)
 | _,_,_,_,.nil=>.nil
 | _,_,_,e,.cons h r=>.cons (da.den g (λb hb=>e b (List.mem_append_left _ hb)) h) (bg.den g (λb hb=>e b (List.mem_append_right _ hb)) r)
end
theorem cK.den {G G':Hp} {v:Option V} {bs:List Addr} {s:Sl} (h:cK K G H v bs s) (g:aq G G') (hv:∀ b ∈ bs,∀ o,H b=some o->G' b=some o) (e:fzD s=some x):∃ u,v=some u/\Den K G' u x:=by
 cases s with
 | un=>cases e
 | d y=>cases e; obtain ⟨_,u,e,q⟩:=h; exact ⟨u,e,q.mono g⟩
 | o xs=>
   cases e
   obtain ⟨a,vs,rfl,h2,h3,h4⟩:=h
   exact ⟨_,h2,.lst (SqL.of (hv a (List.mem_cons_self ..) _ h3)) (h4.mono g)⟩
 | n t=>
   cases e
   obtain ⟨_,u,e,q⟩:=h
   exact ⟨u,e,q.den g hv⟩
 | x E=>cases e
theorem slot_of {i:Nat} {u:V} (h:(σ[i]?).join=some u):σ[i]?=some (some u):=by
 cases e:σ[i]? with
 | none=>rw [e] at h; cases h
 | some o=>rw [e] at h; exact congrArg some h
end
section
variable {X:Cx} {C:Bool} {τ:List Sl} {x y z:D} {a b e:Expr} {es:List Expr} {pos:Pos}
theorem aa (i:Nat) {n:Str} {x:D} (h:τ[i]?=some (.d x):=by rfl) (hN:X.N[i]?=some n:=by rfl) (hv:Vis X.env.scope n:=by first | exact Or.inl rfl | exact Or.inr (Or.inl rfl) | exact Or.inr (Or.inr rfl))
   (hd:(n == ("__debug__" : Str))=false:=by decide) (hcd:(n == ("__classdict__" : Str))=false:=by decide):PE X (.Name n pos) (dE X.K C τ (.d x)):=peW (eg hN hv hd hcd) λσ H Q q=>by
 obtain ⟨A,H₀,B,S,k⟩:=dg q
 obtain ⟨_,u,e,d⟩:=S.sl i _ h
 exact ⟨u,slot_of e,k u H (aq.refl _) (d.mono (ay (aq.refl _) λ_ z=>jH z))⟩
theorem me {v:V} (h:PE X e (tC v)) (d:∀ H,Den X.K H v x):PE X e (dE X.K C τ (.d x)):=peW h λσ H Q q=>by
 obtain ⟨A,H₀,B,S,k⟩:=dg q
 exact k v H (aq.refl _) (d _)
theorem ae {i j}:PE X (.Constant (.int i) j pos) (dE X.K C τ (.d (.int i))):=me sU λ_=>.int
theorem nN {b j}:PE X (.Constant (.bool b) j pos) (dE X.K C τ (.d (.bl b))):=me va λ_=>.bl
theorem rM {j}:PE X (.Constant .none j pos) (dE X.K C τ (.d .non)):=me t5 λ_=>.non
theorem sr {n:Str} {i:Int} (hm:∃ t,X.mg n=some (.int i t)) (hg:Gl X n:=by rfl) (hd:(n == ("__debug__" : Str))=false:=by decide):PE X (.Name n pos) (dE X.K C τ (.d (.int i))):=by
 obtain ⟨t,hm⟩:=hm
 exact me (qz (v:=.int i) hg hm ⟨t,rfl⟩ hd) λ_=>.int
theorem aR {s:Sl} (h:PE X e (dE X.K C τ s)) (hx:fzD s=some x:=by rfl):PE X e (dE X.K C τ (.d x)):=peW h λσ H Q q=>by
 obtain ⟨A,H₀,B,S,k⟩:=dg q
 refine ⟨A,H₀,B,S,λv H' bs e hf q=>?_⟩
 have vd:=S.vd (C:=C)
 obtain ⟨u,e1,d⟩:=q.den (G':=Hy.hd H' (vw C A B)) (ay (aq.refl _) λ_ z=>.inl z) (λb hb o ho=>aB.mpr ⟨λz=>(by obtain ⟨_,q⟩:=vd b z; rw [(hf b hb).1] at q; cases q),ho⟩) hx
 cases e1
 exact k v H' e d
noncomputable def flat:D->Bool
 | .tup _=>false
 | .lst _=>false
 | .box _=>false
 | _=>true
noncomputable def cD (X:Cx) (f:Value->Value->Sem Value) (x y z:D):Prop:=∃ r:R2,OpR X f r /\
 ∀ (M:Addr->Prop) (v w:V) (H:Hp) (Q:VK),(∀ b,M b->∃ o,H b=some o)->Den X.K (hd H M) v x->Den X.K (hd H M) w y->(∀ u H',aq H H'->Den X.K (hd H' M) u z->Q u H')->r v w H Q
theorem two {r:R2} (hr:∀ (M:Addr->Prop) (v w:V) (H:Hp) (Q:VK),(∀ b,M b->∃ o,H b=some o)->Den X.K (hd H M) v x->Den X.K (hd H M) w y->(∀ u H',aq H H'->Den X.K (hd H' M) u z->Q u H')->r v w H Q) :
   ∀ σ H Q,dE X.K C τ (.d z) σ H Q->tOp r (dE X.K C τ (.d x)) (dE X.K C τ (.d y)) σ H Q:=by
 intro σ H Q h
 obtain ⟨A,H₀,B,S,k⟩:=dg h
 refine aQ S λv H1 e1 d1=>aQ (S.mono e1) λw H2 e2 d2=>hr (vw C A B) v w H2 Q ((S.mono e1).mono e2).vd (d1.mono (ay e2 λ_ z=>z)) d2 λu H' e3 d3=>k u H' (e1.trans (e2.trans e3)) d3
theorem aA {op:Operator} (ha:PE X a (dE X.K C τ (.d x))) (hb:PE X b (dE X.K C τ (.d y))) (ho:cD X (binaryOp op) x y z):PE X (.BinOp a op b pos) (dE X.K C τ (.d z)):=by
 obtain ⟨r,h1,h2⟩:=ho
 exact peW (rG h1 ha hb) (two h2)
theorem cc {op:CmpOp} (ha:PE X a (dE X.K C τ (.d x))) (hb:PE X b (dE X.K C τ (.d y))) (ho:cD X (compareOp op) x y z) (hm:behindInMarks op b=false:=by first | exact pW _ | rfl):PE X (.Compare a [op] [b] pos) (dE X.K C τ (.d z)):=by
 obtain ⟨r,h1,h2⟩:=ho
 exact peW (rq h1 ha hb hm) (two h2)
theorem pP {t:TE} {c:Bool} (h:∀ σ H Q,dE X.K false τ (.d (.bl c)) σ H Q->t σ H Q):∀ σ H Q,dT X.K τ c σ H Q->t σ H λx H'=>∃ k,x=.bl k/\Q k H':=λσ H Q ⟨A,H₀,B,S,k⟩=>
 h σ H _ (aQ S λv H' e d=>by cases d; exact ⟨c,rfl,k H' e⟩)
theorem aU {op:CmpOp} {c:Bool} (ha:PE X a (dE X.K false τ (.d x))) (hb:PE X b (dE X.K false τ (.d y))) (ho:cD X (compareOp op) x y (.bl c)) (hm:behindInMarks op b=false:=by first | exact pW _ | rfl):PT X (.Compare a [op] [b] pos) (dT X.K τ c):=by
 obtain ⟨r,h1,h2⟩:=ho
 exact ptW (ra h1 ha hb hm) (pP (two h2))
theorem cX {c:Bool} (h:PE X e (dE X.K false τ (.d (.bl c)))) (he:∀ whole,isTrue e X.env whole=(do let v <- whole; standAt e.pos; holding [v] (truthy v)):=by intro _; rfl):PT X e (dT X.K τ c):=
 ptW (ug h he) (pP λ_ _ _ q=>q)
theorem mH {g:Int->Int->V} {P:Int->Int->Prop} {i j:Int} (hc:P i j) (hz:∀ K H,Den K H (g i j) z):∀ (M:Addr->Prop) (v w:V) (H:Hp) (Q:VK),(∀ b,M b->∃ o,H b=some o)->Den X.K (hd H M) v (.int i)->Den X.K (hd H M) w (.int j) ->
   (∀ u H',aq H H'->Den X.K (hd H' M) u z->Q u H')->rI P g v w H Q:=λ_ v w H Q _ d1 d2 k=>by
 cases d1
 cases d2
 exact ⟨i,j,rfl,rfl,hc,k _ H (aq.refl _) (hz _ _)⟩
theorem iG {g:Int->Int->V} {i j:Int} (hz:∀ K H,Den K H (g i j) z):∀ (M:Addr->Prop) (v w:V) (H:Hp) (Q:VK),(∀ b,M b->∃ o,H b=some o)->Den X.K (hd H M) v (.int i)->Den X.K (hd H M) w (.int j) ->
   (∀ u H',aq H H'->Den X.K (hd H' M) u z->Q u H')->rI0 g v w H Q:=λ_ v w H Q _ d1 d2 k=>by
 cases d1
 cases d2
 exact ⟨i,j,rfl,rfl,k _ H (aq.refl _) (hz _ _)⟩
variable {i j:Int}
theorem aT:cD X (binaryOp .Add) (.int i) (.int j) (.int (i + j)):=⟨_,ua,iG λ_ _=>.int⟩
theorem eY:cD X (binaryOp .Sub) (.int i) (.int j) (.int (i - j)):=⟨_,tO,iG λ_ _=>.int⟩
theorem aF.ok' {i j:Int} (h:aF i j):IntMulOk i j:=by
 have b:∀ {k:Int} {n:Nat},k.natAbs.log2 < n->Builtin.Int.intBits k<=n:=λ{k n} q=>by
   unfold Builtin.Int.intBits
   split
   · exact Nat.zero_le _
   · exact q
 rcases h with h | h | ⟨h1,h2⟩
 · exact .of_left (b h)
 · exact .of_right (b h)
 · exact .of_bits (Nat.le_trans (b h1) (by decide)) (Nat.le_trans (b h2) (by decide))
theorem bP (h:aF i j):cD X (binaryOp .Mult) (.int i) (.int j) (.int (i * j)):=⟨rI aF λi j=>.int (i * j),opI λ_ _ _ _ _ _ _ hc q=>mul_int q (aF.ok' hc),mH h λ_ _=>.int⟩
theorem bF (h:aE j):cD X (binaryOp .FloorDiv) (.int i) (.int j) (.int (i.fdiv j)):=⟨rI (λ_ j=>aE j) λi j=>.int (i.fdiv j),opI λ_ _ _ _ _ _ _ hc q=>floordiv_int hc.1 q (.inl (PyProof.noPylong_of_log2 hc.2)),mH h λ_ _=>.int⟩
theorem cb (h:j ≠ 0):cD X (binaryOp .Mod) (.int i) (.int j) (.int (i.fmod j)):=⟨_,rk,mH h λ_ _=>.int⟩
theorem gO (h:uL i j):cD X (binaryOp .Pow) (.int i) (.int j) (.int (i ^ j.toNat)):=⟨_,t8,mH h λ_ _=>.int⟩
theorem jU:cD X (compareOp .Lt) (.int i) (.int j) (.bl (decide (i < j))):=⟨_,uK,iG λ_ _=>.bl⟩
theorem uD:cD X (compareOp .LtE) (.int i) (.int j) (.bl (decide (i<=j))):=⟨_,uW,iG λ_ _=>.bl⟩
theorem ki:cD X (compareOp .Gt) (.int i) (.int j) (.bl (decide (j < i))):=⟨_,uR,iG λ_ _=>.bl⟩
theorem ub:cD X (compareOp .GtE) (.int i) (.int j) (.bl (decide (j<=i))):=⟨_,ve,iG λ_ _=>.bl⟩
theorem dQ:cD X (compareOp .Eq) (.int i) (.int j) (.bl (decide (i=j))):=⟨_,vK,λ_ v w H Q _ d1 d2 k=>by
 cases d1
 cases d2
 exact ⟨rfl,by rw [show decide (V.int i=V.int j)=decide (i=j) by simp]; exact k _ H (aq.refl _) .bl⟩⟩
theorem iy:cD X (compareOp .NotEq) (.int i) (.int j) (.bl (!decide (i=j))):=⟨_,uP,λ_ v w H Q _ d1 d2 k=>by
 cases d1
 cases d2
 exact ⟨rfl,by rw [show decide (V.int i=V.int j)=decide (i=j) by simp]; exact k _ H (aq.refl _) .bl⟩⟩
theorem fL (h:PE X a (dE X.K C τ (.d (.int i)))):PE X (.UnaryOp .USub a pos) (dE X.K C τ (.d (.int (-i)))):=peW (vc sQ h) λσ H Q q=>by
 obtain ⟨A,H₀,B,S,k⟩:=dg q
 refine aQ S λv H1 e1 d1=>?_
 cases d1
 exact ⟨i,rfl,k _ H1 e1 .int⟩
theorem pZ {e:Expr}:PE X e λ_ _ _=>False:=λ_ _ _ _ _ _ h=>h.elim
theorem pw_no {e:Expr}:PW X e λ_ _ _=>False:=λ_ _ _ _ _ _ _ h=>h.elim
variable {p q:Bool} {c:Expr} {rest:List Expr}
theorem kC {op} {s:Sl} (h:PE X a (dE X.K C τ s)):PE X (.BoolOp op [a] pos) (dE X.K C τ s):=tK h
theorem iM (ha:PE X a (dE X.K C τ (.d (.bl p)))) (hb:p=true->PE X (.BoolOp .And (b :: rest) pos) (dE X.K C τ (.d (.bl q)))):PE X (.BoolOp .And (a :: b :: rest) pos) (dE X.K C τ (.d (.bl (p && q)))):=by
 cases p with
 | false=>
   refine peW (oF ha pZ) λσ H Q z=>?_
   obtain ⟨A,H₀,B,S,k⟩:=dg z
   exact aQ S λv H' e d=>by cases d; exact ⟨_,rfl,k _ H' e .bl⟩
 | true=>
   refine peW (oF ha (hb rfl)) λσ H Q z=>?_
   obtain ⟨A,H₀,B,S,k⟩:=dg z
   exact aQ S λv H' e d=>by cases d; exact ⟨_,rfl,aQ (S.mono e) λv H2 e2 d2=>k v H2 (e.trans e2) d2⟩
theorem vO (ha:PE X a (dE X.K C τ (.d (.bl p)))):PE X (.UnaryOp .Not a pos) (dE X.K C τ (.d (.bl (!p)))):=peW (uH ha) λσ H Q z=>by
 obtain ⟨A,H₀,B,S,k⟩:=dg z
 exact aQ S λv H' e d=>by cases d; exact ⟨_,rfl,k _ H' e .bl⟩
theorem pQ (ha:PT X a (dT X.K τ p)):PW X (.BoolOp .And [a] pos) (dT X.K τ p):=pw_and1 ha
theorem iI (ha:PT X a (dT X.K τ p)):PW X (.BoolOp .Or [a] pos) (dT X.K τ p):=pw_or1 ha
theorem r9 (ha:PT X a (dT X.K τ p)) (hb:p=true->PW X (.BoolOp .And (b :: rest) pos) (dT X.K τ q)):PW X (.BoolOp .And (a :: b :: rest) pos) (dT X.K τ (p && q)):=by
 cases p with
 | false=>exact pwW (pw_and ha pw_no) λσ H Q ⟨A,H₀,B,S,k⟩=>⟨A,H₀,B,S,λH' e=>nk (k H' e)⟩
 | true=>exact pwW (pw_and ha (hb rfl)) λσ H Q ⟨A,H₀,B,S,k⟩=>⟨A,H₀,B,S,λH' e=>nR (⟨A,H₀,B,S.mono e,λH2 e2=>k H2 (e.trans e2)⟩)⟩
theorem k9 (ha:PT X a (dT X.K τ p)) (hb:p=false->PW X (.BoolOp .Or (b :: rest) pos) (dT X.K τ q)):PW X (.BoolOp .Or (a :: b :: rest) pos) (dT X.K τ (p || q)):=by
 cases p with
 | true=>exact pwW (pw_or ha pw_no) λσ H Q ⟨A,H₀,B,S,k⟩=>⟨A,H₀,B,S,λH' e=>nR (k H' e)⟩
 | false=>exact pwW (pw_or ha (hb rfl)) λσ H Q ⟨A,H₀,B,S,k⟩=>⟨A,H₀,B,S,λH' e=>nk (⟨A,H₀,B,S.mono e,λH2 e2=>k H2 (e.trans e2)⟩)⟩
theorem cV (ha:PT X a (dT X.K τ p)):PT X (.UnaryOp .Not a pos) (dT X.K τ (!p)):=ptW (tI ha) λσ H Q ⟨A,H₀,B,S,k⟩=>⟨A,H₀,B,S,λH' e=>k H' e⟩
theorem mY {s:Sl} (hc:PT X c (dT X.K τ p)) (ha:p=true->PE X a (dE X.K C τ s)) (hb:p=false->PE X b (dE X.K C τ s)):PE X (.IfExp c a b pos) (dE X.K C τ s):=by
 have fin:∀ {σ H H' Q} {A:Addr->Prop} {H₀ B},Sta X.K A H₀ τ B σ H->(∀ v H' bs,aq H H'->Fr H H' bs->cK X.K (hd H' λb=>vw C A B b\/b ∈ bs) H' (some v) bs s->Q v H')->aq H H'->dE X.K C τ s σ H' Q:=λS k e=>
   ⟨_,_,_,S.mono e,λv H2 bs e2 hf h=>k v H2 bs (e.trans e2) (λb hb=>⟨e.free (hf b hb).1,(hf b hb).2⟩) h⟩
 cases p with
 | true=>exact peW (kj hc (ha rfl) pZ) λσ H Q ⟨A,H₀,B,S,k⟩=>⟨A,H₀,B,S,λH' e=>nR (fin S k e)⟩
 | false=>exact peW (kj hc pZ (hb rfl)) λσ H Q ⟨A,H₀,B,S,k⟩=>⟨A,H₀,B,S,λH' e=>nk (fin S k e)⟩
theorem rA {op op':CmpOp} (ha:PE X a (dE X.K C τ (.d x))) (hb:PE X b (dE X.K C τ (.d y))) (hc:PE X c (dE X.K C τ (.d z))) (h1:cD X (compareOp op) x y (.bl p)) (h2:cD X (compareOp op') y z (.bl q))
   (hm:lastMarks [op,op'] [b,c]=false:=by with_unfolding_all rfl):PE X (.Compare a [op,op'] [b,c] pos) (dE X.K C τ (.d (.bl (p && q))))/\(C=false->PT X (.Compare a [op,op'] [b,c] pos) (dT X.K τ (p && q))):=by
 obtain ⟨r,o1,k1⟩:=h1
 obtain ⟨r',o2,k2⟩:=h2
 have key:∀ σ H Q,dE X.K C τ (.d (.bl (p && q))) σ H Q->lA r r' (dE X.K C τ (.d x)) (dE X.K C τ (.d y)) (dE X.K C τ (.d z)) σ H Q:=λσ H Q h=>by
   obtain ⟨A,H₀,B,S,k⟩:=dg h
   refine aQ S λv H1 e1 d1=>aQ (S.mono e1) λw H2 e2 d2=>k1 (vw C A B) v w H2 _ ((S.mono e1).mono e2).vd (d1.mono (ay e2 λ_ z=>z)) d2 λu H3 e3 d3=>?_
   cases d3
   refine ⟨p,rfl,?_⟩
   cases p with
   | false=>exact nk (k _ H3 (e1.trans (e2.trans e3)) .bl)
   | true=>exact nR (aQ (((S.mono e1).mono e2).mono e3) λw' H4 e4 d4=>k2 (vw C A B) w w' H4 Q ((((S.mono e1).mono e2).mono e3).mono e4).vd (d2.mono (ay (e3.trans e4) λ_ z=>z)) d4 λu H5 e5 d5=>k u H5 (e1.trans (e2.trans (e3.trans (e4.trans e5)))) d5)
 exact ⟨peW (oO o1 o2 ha hb hc hm) key,λhC=>by subst hC; exact ptW (oD o1 o2 ha hb hc hm) (pP key)⟩
theorem af:PA X [] (dA X.K C τ []):=paW jb λσ H Q ⟨A,H₀,B,S,k⟩=>k [] H (aq.refl _) .nil
theorem ab {ds:List D} (ha:PE X e (dE X.K C τ (.d x))) (hr:PA X es (dA X.K C τ ds)) (hs:starEach (e :: es) X.env=(false,eval e X.env) :: starEach es X.env:=by rfl):PA X (e :: es) (dA X.K C τ (x :: ds)):=paW (eQ ha hr hs) λσ H Q ⟨A,H₀,B,S,k⟩=>
 aQ S λv H1 e1 d1=>fb (S.mono e1) λvs H2 e2 d2=>k _ H2 (e1.trans e2) (.cons (d1.mono (ay e2 λ_ z=>z)) d2)
theorem bO {ds:List D} {m} (h:PA X es (dA X.K C τ ds)) (hl:Nat.ble ds.length 1000=true:=by rfl):PE X (.Tuple es m pos) (dE X.K C τ (.d (.tup ds))):=peW (sF h) λσ H Q q=>by
 obtain ⟨A,H₀,B,S,k⟩:=dg q
 refine fb S λvs H1 e1 d1=>⟨by rw [d1.length]; exact Nat.le_of_lt (iZ (Nat.le_of_ble_eq_true hl)),λp hp=>k _ _ (e1.trans (ah hp _)) ?_⟩
 exact .tup (SqT.of (hJ (S.mono e1).vd hp)) (d1.mono (ay (ah hp _) λ_ z=>z))
theorem bJ {ds:List D} (h:PA X es (dA X.K C τ ds)) (hl:Nat.ble ds.length 1000=true:=by rfl):PE X (.List es pos) (dE X.K C τ (.o ds)):=peW (tN h) λσ H Q ⟨A,H₀,B,S,k⟩=>
 fb S λvs H1 e1 d1=>⟨by rw [d1.length]; exact Nat.le_of_lt (iZ (Nat.le_of_ble_eq_true hl)),λp hp=>k _ _ [p] (e1.trans (ah hp _)) (λb hb=>by
   obtain rfl:=List.mem_singleton.mp hb
   exact ⟨e1.free hp,_,aL⟩) ⟨p,vs,rfl,rfl,aL,d1.mono λb o z=>by
     obtain ⟨z1,z2⟩:=aB.mp z
     refine aB.mpr ⟨λy=>?_,ah hp _ _ _ z2⟩
     rcases y with y | y
     · exact z1 y
     · rw [List.mem_singleton.mp y] at z2; rw [hp] at z2; cases z2⟩⟩
end
noncomputable def spD (K:PySem.W.Frag) (Φ:List D->Sl->Prop):Sp:=λvs H Q _=>∃ A ds s,(∀ b,A b->∃ o,H b=some o)/\ar K (hd H A) vs ds/\Φ ds s /\
 ∀ v H' bs,aq H H'->Fr H H' bs->cK K (hd H' λb=>A b\/b ∈ bs) H' (some v) bs s->Q v H'
noncomputable def Cal (P:Program) (w:World) (K:PySem.W.Frag) (mg:Str->Option Value) (base:Heap) (k:Nat) (n:Str) (Φ:List D->Sl->Prop):Prop:=
 ∃ f fd ps,aN P w K mg base CX0 k f fd ps (spD K Φ)/\mg n=some (.ref f)/\PySem.W.keepIn K (.ref f)=true/\Binds K fd ps []
theorem Cal.mono {P:Program} {w:World} {K:PySem.W.Frag} {mg:Str->Option Value} {base:Heap} {j k:Nat} {n:Str} {Φ:List D->Sl->Prop} (c:Cal P w K mg base j n Φ) (h:j<=k):Cal P w K mg base k n Φ:=
 let ⟨f,fd,ps,F,r⟩:=c; ⟨f,fd,ps,F.mono h,r⟩
noncomputable def ao:List Str:=["len","abs","max","min","int","bool","list","tuple","str","isinstance","range","enumerate","all","zip","sorted","sum","any","reversed"]
structure Bk (X:Cx) (k:Nat):Prop where
 room:de k X.A
 calm:X.calm=true
 blt:∀ x ∈ ao,X.mg x=none
 po:PassesOwn (model X.prog X.w) X.A X.env X.xe
section
variable {X:Cx} {C:Bool} {τ:List Sl} {x y z:D} {a b e:Expr} {es:List Expr} {pos p:Pos} {k:Nat} {s:Sl} {ds:List D} {i j:Int}
theorem x_call {n:Str} {Φ:List D->Sl->Prop} (B:Bk X k) (c:Cal X.prog X.w X.K X.mg X.base k n Φ) (ha:PA X (e :: es) (dA X.K C τ ds)) (h:Φ ds s) (hg:Gl X n:=by rfl) (hdb:(n == ("__debug__" : Str))=false:=by decide)
   (he:starEach (e :: es) X.env=(false,eval e X.env) :: starEach es X.env:=by rfl) (hpl:(backTo pos (starEach es X.env)).any (·.1)=false:=by rfl):PE X (.Call (.Name n p) (e :: es) [] pos) (dE X.K C τ s):=by
 obtain ⟨f,fd,ps,F,hm,hk,hb⟩:=c
 refine peW (rf F B.room hg hm hk hb .nil vh ha hdb he hpl) λσ H Q ⟨A,H₀,B,S,q⟩=>fb S λvs H1 e1 d1=>?_
 rw [List.append_nil]
 exact ⟨vw C A B,ds,s,(S.mono e1).vd,d1,h,λv H' bs e2 hf h2=>q v H' bs (e1.trans e2) (λb hb=>⟨e1.free (hf b hb).1,(hf b hb).2⟩) h2⟩
noncomputable def fq (X:Cx) (f:Value) (ds:List D) (s:Sl):Prop:=∃ r:List V->Hp->VK->Prop,cF X f r /\
 ∀ (M:Addr->Prop) (vs:List V) (H:Hp) (Q:VK),(∀ b,M b->∃ o,H b=some o)->ar X.K (hd H M) vs ds->(∀ u H' bs,aq H H'->Fr H H' bs->cK X.K (hd H' λb=>M b\/b ∈ bs) H' (some u) bs s->Q u H')->r vs H Q
theorem o9 {r:List V->Hp->VK->Prop} (hr:∀ (M:Addr->Prop) (vs:List V) (H:Hp) (Q:VK),(∀ b,M b->∃ o,H b=some o)->ar X.K (hd H M) vs ds->(∀ u H' bs,aq H H'->Fr H H' bs->cK X.K (hd H' λb=>M b\/b ∈ bs) H' (some u) bs s->Q u H')->r vs H Q) :
   ∀ σ H Q,dE X.K C τ s σ H Q->tCB r (dA X.K C τ ds) σ H Q:=λσ H Q ⟨A,H₀,B,S,q⟩=>
 fb S λvs H1 e1 d1=>hr (vw C A B) vs H1 Q (S.mono e1).vd d1 λv H' bs e2 hf h2=>q v H' bs (e1.trans e2) (λb hb=>⟨e1.free (hf b hb).1,(hf b hb).2⟩) h2
theorem a5 {n:Str} {id:String} (B:Bk X k) (ha:PA X (e :: es) (dA X.K C τ ds)) (c:fq X (.builtin id) ds s) (hn:n ∈ ao:=by decide) (hg:Gl X n:=by rfl) (hv:bootBuiltins n=some (.builtin id):=by decide +kernel) (h1:n ≠ "__name__":=by decide) (hdb:(n == ("__debug__" : Str))=false:=by decide)
   (he:starEach (e :: es) X.env=(false,eval e X.env) :: starEach es X.env:=by rfl) (hpl:(backTo pos (starEach es X.env)).any (·.1)=false:=by rfl):PE X (.Call (.Name n p) (e :: es) [] pos) (dE X.K C τ s):=by
 obtain ⟨r,h1,h2⟩:=c
 exact peW (j7 h1 hg (B.blt _ hn) hv ha (by assumption) hdb he hpl) (o9 h2)
theorem km {n:Str} {T:String} (B:Bk X k) (ha:PA X (e :: es) (dA X.K C τ ds)) (c:fq X (.type T) ds s) (hn:n ∈ ao:=by decide) (hg:Gl X n:=by rfl) (hv:bootBuiltins n=some (.type T):=by decide +kernel) (h1:n ≠ "__name__":=by decide) (hdb:(n == ("__debug__" : Str))=false:=by decide)
   (he:starEach (e :: es) X.env=(false,eval e X.env) :: starEach es X.env:=by rfl) (hpl:(backTo pos (starEach es X.env)).any (·.1)=false:=by rfl):PE X (.Call (.Name n p) (e :: es) [] pos) (dE X.K C τ s):=by
 obtain ⟨r,h1,h2⟩:=c
 exact peW (nA h1 hg (B.blt _ hn) hv ha (by assumption) hdb he hpl) (o9 h2)
theorem eM {K:PySem.W.Frag} {H:Hp} {M:Addr->Prop} {v:V} (h:Den K (hd H M) v x):cK K (hd H λb=>M b\/b ∈ ([]:List Addr)) H (some v) [] (.d x):=⟨rfl,v,rfl,h.mono (ay (aq.refl _) λ_ z=>z.elim id λz=>nomatch z)⟩
theorem cu {H H':Hp}:Fr H H' []:=λ_ z=>nomatch z
theorem dX {xs:List D}:fq X (.builtin "len") [.lst xs] (.d (.int xs.length)):=⟨_,eJ,λM vs H Q _ d q=>by
 cases d with
 | cons d r=>
   cases r
   cases d with
   | lst h r=>
     refine ⟨_,_,rfl,.inl (aG aI h),?_⟩
     rw [r.length]
     exact q _ H [] (aq.refl _) cu (eM .int)⟩
theorem lu {xs:List D}:fq X (.builtin "len") [.tup xs] (.d (.int xs.length)):=⟨_,eJ,λM vs H Q _ d q=>by
 cases d with
 | cons d r=>
   cases r
   cases d with
   | tup h r=>
     refine ⟨_,_,rfl,.inr (aM aI h),?_⟩
     rw [r.length]
     exact q _ H [] (aq.refl _) cu (eM .int)⟩
noncomputable def lO (i:Int):Int:=if i < 0 then -i else i
theorem iS:fq X (.builtin "abs") [.int i] (.d (.int (lO i))):=⟨_,oT,λM vs H Q _ d q=>by
 cases d with
 | cons d r=>
   cases r
   cases d
   exact ⟨_,rfl,q _ H [] (aq.refl _) cu (eM .int)⟩⟩
theorem qa (hc:X.calm=true):fq X (.builtin "max") [.int i,.int j] (.d (.int (if j > i then j else i))):=⟨_,m4 hc,λM vs H Q _ d q=>by
 cases d with
 | cons d r=>
   cases r with
   | cons d' r=>
     cases r
     cases d
     cases d'
     exact ⟨_,_,rfl,q _ H [] (aq.refl _) cu (eM .int)⟩⟩
theorem mq (hc:X.calm=true):fq X (.builtin "min") [.int i,.int j] (.d (.int (if j < i then j else i))):=⟨_,m8 hc,λM vs H Q _ d q=>by
 cases d with
 | cons d r=>
   cases r with
   | cons d' r=>
     cases r
     cases d
     cases d'
     exact ⟨_,_,rfl,q _ H [] (aq.refl _) cu (eM .int)⟩⟩
theorem i4 {c:Bool}:fq X (.type "int") [.bl c] (.d (.int (if c then 1 else 0))):=⟨_,nB,λM vs H Q _ d q=>by
 cases d with
 | cons d r=>
   cases r
   cases d
   exact .inr ⟨_,rfl,q _ H [] (aq.refl _) cu (eM .int)⟩⟩
theorem ll {K:PySem.W.Frag} {H:Hp} {M:Addr->Prop} {p:Addr} {vs:List V} {xs:List D} (hp:H p=none) (d:ar K (hd H M) vs xs) :
   aq H (upd H p (.lst vs))/\Fr H (upd H p (.lst vs)) [p]/\cK K (hd (upd H p (.lst vs)) λb=>M b\/b ∈ [p]) (upd H p (.lst vs)) (some (.ref p)) [p] (.o xs):=
 ⟨ah hp _,λb hb=>by
   obtain rfl:=List.mem_singleton.mp hb
   exact ⟨hp,_,aL⟩,p,vs,rfl,rfl,aL,d.mono λb o z=>by
     obtain ⟨z1,z2⟩:=aB.mp z
     refine aB.mpr ⟨λy=>?_,ah hp _ _ _ z2⟩
     rcases y with y | y
     · exact z1 y
     · rw [List.mem_singleton.mp y] at z2; rw [hp] at z2; cases z2⟩
theorem mL {xs:List D}:fq X (.type "list") [.tup xs] (.o xs):=⟨_,jJ,λM vs H Q _ d q=>by
 cases d with
 | cons d r=>
   cases r
   cases d with
   | tup h r=>
     refine ⟨_,_,rfl,.inr (aM aI h),λp hp=>?_⟩
     obtain ⟨z1,z2,z3⟩:=ll (K:=X.K) (M:=M) hp r
     exact q _ _ [p] z1 z2 z3⟩
theorem pj {K:PySem.W.Frag} {H:Hp} {vs:List V} {ds:List D} {i:Int} {d:D} (r:ar K H vs ds) (h:atI ds i=some d):∃ v,atI vs i=some v/\Den K H v d:=by
 unfold atI at h ⊢
 rw [r.length]
 cases e:ixN ds.length i with
 | none=>rw [e] at h; cases h
 | some j=>rw [e] at h; exact r.get h
noncomputable def t7 (X:Cx) (x y z:D):Prop:=∃ r:R2,IxR X r /\
 ∀ (M:Addr->Prop) (v w:V) (H:Hp) (Q:VK),(∀ b,M b->∃ o,H b=some o)->Den X.K (hd H M) v x->Den X.K (hd H M) w y->(∀ u H',aq H H'->Den X.K (hd H' M) u z->Q u H')->r v w H Q
theorem aP (ha:PE X a (dE X.K C τ (.d x))) (hb:PE X b (dE X.K C τ (.d y))) (ho:t7 X x y z) (hs:lY b:=by exact λ_ _=>rfl):PE X (.Subscript a b pos) (dE X.K C τ (.d z)):=by
 obtain ⟨r,h1,h2⟩:=ho
 exact peW (vb h1 ha hb hs) (two h2)
theorem aW {xs:List D} (h:atI xs i=some z):t7 X (.lst xs) (.int i) z:=⟨_,qm,λM v w H Q _ d1 d2 q=>by
 cases d2
 cases d1 with
 | lst hs r=>
   obtain ⟨v,e,d⟩:=pj r h
   exact ⟨_,_,_,_,rfl,rfl,aG aI hs,e,q _ H (aq.refl _) d⟩⟩
theorem a6 {xs:List D} (h:atI xs i=some z):t7 X (.tup xs) (.int i) z:=⟨_,su,λM v w H Q _ d1 d2 q=>by
 cases d2
 cases d1 with
 | tup hs r=>
   obtain ⟨v,e,d⟩:=pj r h
   exact ⟨_,_,_,_,rfl,rfl,aM aI hs,e,q _ H (aq.refl _) d⟩⟩
noncomputable def dO (K:PySem.W.Frag) (τ:List Sl) (c:Option Int):TO:=λσ H Q=>∃ A H₀ B,Sta K A H₀ τ B σ H/\∀ H',aq H H'->Q c H'
theorem u7 {e:Option Expr} {t t':TO} (h:PO X e t) (f:∀ σ H Q,t' σ H Q->t σ H Q):PO X e t':=λpins s σ H Q I q=>h pins s σ H Q I (f σ H Q q)
theorem kX:PO X none (dO X.K τ none):=u7 rz λσ H Q ⟨A,H₀,B,S,k⟩=>k H (aq.refl _)
theorem er (h:PE X e (dE X.K false τ (.d (.int i)))):PO X (some e) (dO X.K τ (some i)):=u7 (qX h) λσ H Q ⟨A,H₀,B,S,k⟩=>aQ S λv H1 e1 d1=>by
 cases d1
 exact ⟨_,rfl,k H1 e1⟩
noncomputable def cutD (xs:List D) (lo hi:Option Int):List D:=(xs.drop (HT.sIx xs.length 0 lo)).take (HT.sIx xs.length xs.length hi - HT.sIx xs.length 0 lo)
theorem vn {lo hi:Option Expr} {l u:Option Int} {xs:List D} {p2:Pos} (ha:PE X a (dE X.K C τ (.d (.lst xs)))) (hl:PO X lo (dO X.K τ l)) (hu:PO X hi (dO X.K τ u)):PE X (.Subscript a (.Slice lo hi none p2) pos) (dE X.K C τ (.o (cutD xs l u))):=
 peW (kz qC ha hl hu) λσ H Q ⟨A,H₀,B,S,k⟩=>aQ S λv H1 e1 d1=>⟨A,H₀,B,S.mono e1,λH2 e2=>⟨A,H₀,B,(S.mono e1).mono e2,λH3 e3=>by
   cases d1 with
   | @lst _ ws _ h r=>
     have h:=aG (e2.trans e3) (aG aI h)
     refine ⟨_,_,rfl,h,λp hp=>?_⟩
     have r:=r.mono (ay (e2.trans e3) λ_ z=>z)
     have r':ar X.K (hd H3 (vw C A B)) (gq ws l u) (cutD xs l u):=by
       unfold gq cutD
       rw [r.length]
       exact (r.drop _).take _
     obtain ⟨z1,z2,z3⟩:=ll (K:=X.K) hp r'
     exact k _ _ [p] (e1.trans (e2.trans (e3.trans z1))) (λb hb=>⟨(e1.trans (e2.trans e3)).free (z2 b hb).1,(z2 b hb).2⟩) z3⟩⟩
inductive Ty where
 | int | bool | str | list | tuple
noncomputable def tyN:Ty->String
 | .int=>"int" | .bool=>"bool" | .str=>"str" | .list=>"list" | .tuple=>"tuple"
noncomputable def vy:D->String
 | .non=>"NoneType" | .bl _=>"bool" | .int _=>"int" | .str _=>"str" | .tup _=>"tuple" | .lst _=>"list" | .box _=>"dict"
noncomputable def kh:Ty->D->Bool
 | .int,.int _=>true
 | .int,.bl _=>true
 | .bool,.bl _=>true
 | .str,.str _=>true
 | .list,.lst _=>true
 | .tuple,.tup _=>true
 | _,_=>false
theorem tZ (K:PySem.W.Frag) (d:D) (t:Ty):PySem.W.kitOne K (.type (vy d)) (.type (tyN t))=some (kh t d):=by
 cases d <;> cases t <;> (show PySem.W.kitOne K (.type _) (.type _)=some _) <;> with_unfolding_all rfl
theorem tP (t:Ty):cF X (.builtin "isinstance") (λxs H Q=>∃ G x d,aq G H/\xs=[x,.ty (tyN t)]/\Den X.K G x d/\Q (.bl (kh t d)) H):=by
 intro pins s σ H xs us Q I r q
 obtain ⟨G,x,d,sg,rfl,dx,q⟩:=q
 obtain ⟨u,w,rfl,rx,rt⟩:∃ u w,us=[u,w]/\RelV x u/\RelV (.ty (tyN t)) w:=by
   cases r with
   | cons r1 r=>cases r with
     | cons r2 r=>cases r; exact ⟨_,_,rfl,r1,r2⟩
 cases (show w=Value.type (tyN t) from rt)
 have kt:=tZ X.K d t
 have fin:∀ tk,EP X pins σ Q (.bool (kh t d)) { s with toks:=tk }:=λtk=>⟨.bl _,H,I.tok _,rfl,q⟩
 cases dx with
 | non=>cases (show u=Value.none from rx); exact PySem.W.kia_one PySem.W.kitx_none I.kIn True.intro kt (λz=>nomatch z) fin
 | bl=>cases (show u=Value.bool _ from rx); exact PySem.W.kia_one PySem.W.kitx_bool I.kIn True.intro kt (λz=>nomatch z) fin
 | int=>obtain ⟨t',z⟩:=(show ∃ t,u=Value.int _ t from rx); cases z; exact PySem.W.kia_one PySem.W.kitx_int I.kIn True.intro kt (λz=>nomatch z) fin
 | str=>obtain ⟨t',z⟩:=(show ∃ t,u=Value.str _ t from rx); cases z; exact PySem.W.kia_one PySem.W.kitx_str I.kIn True.intro kt (λz=>nomatch z) fin
 | tup h r1=>
   cases (show u=Value.ref _ from rx)
   obtain ⟨its,_,⟨o,h1,h2,_⟩,_⟩:=I.tuple (aM sg h)
   exact PySem.W.kia_one PySem.W.kitx_tuple I.kIn ⟨o,h1,h2⟩ kt (λz=>nomatch z) fin
 | lst h r1=>
   cases (show u=Value.ref _ from rx)
   obtain ⟨its,_,⟨o,n,h1,h2,_⟩,_⟩:=I.list (aG sg h)
   exact PySem.W.kia_one PySem.W.kitx_list I.kIn ⟨o,h1,h2⟩ kt (λz=>nomatch z) fin
 | @box a x h=>
   cases (show u=Value.ref _ from rx)
   obtain ⟨o',h1,h2⟩:=x.isd h
   obtain ⟨o,h3,h4⟩:=h2 _ _ _ _ (I.hok a _ (sg _ _ h1))
   exact PySem.W.kia_one PySem.W.kitx_dict I.kIn ⟨o,h3,h4⟩ kt (λz=>nomatch z) fin
theorem kr {n:Str} {q:Pos} (t:Ty) (B:Bk X k) (ha:PE X a (dE X.K false τ (.d x))) (hn:n ∈ ao:=by decide) (ht:bootBuiltins n=some (.type (tyN t)):=by decide +kernel) (hg:Gl X "isinstance":=by rfl) (hg':Gl X n:=by rfl) (h1:n ≠ "__name__":=by decide) (hdb:(n == ("__debug__" : Str))=false:=by decide)
   (he:starEach [a,.Name n q] X.env=(false,eval a X.env) :: starEach [.Name n q] X.env:=by rfl) (hpl:(backTo pos (starEach [.Name n q] X.env)).any (·.1)=false:=by rfl):PE X (.Call (.Name "isinstance" p) [a,.Name n q] [] pos) (dE X.K C τ (.d (.bl (kh t x)))):=by
 refine peW (j7 (tP t) hg (B.blt _ (by decide)) (by decide +kernel) (eQ ha (eQ (qI (v:=.ty (tyN t)) hg' (B.blt _ hn) ht rfl h1 hdb) jb) he) (by decide) (by decide) he hpl) λσ H Q q=>?_
 obtain ⟨A,H₀,B,S,k⟩:=dg q
 exact aQ S λv H1 e1 d1=>⟨_,v,x,aI,rfl,d1,k _ H1 e1 .bl⟩
end
section
variable {K:PySem.W.Frag} {A:Addr->Prop} {H₀ H H':Hp} {τ:List Sl} {B:Nat->List Addr} {σ:L2.St}
theorem Sta.put (S:Sta K A H₀ τ B σ H) {i:Nat} {a:Addr} {xs ys:List D} {vs:List V} (hi:τ[i]?=some (.o xs)) (hB:B i=[a]) (d:ar K (hd H (own A B)) vs ys):Sta K A H₀ (τ.set i (.o ys)) B σ (upd H a (.lst vs)):=by
 have ha:own A B a:=.inr ⟨i,by rw [hB]; exact List.mem_singleton.mpr rfl⟩
 have ne:∀ b,b ≠ a->upd H a (.lst vs) b=H b:=λb h=>aD h
 have sm:aq (hd H (own A B)) (hd (upd H a (.lst vs)) (own A B)):=λb o z=>by
   obtain ⟨z1,z2⟩:=aB.mp z
   exact aB.mpr ⟨z1,by rw [ne b (λe=>z1 (e ▸ ha))]; exact z2⟩
 have f0:H₀ a=none:=S.fr i a (by rw [hB]; exact List.mem_singleton.mpr rfl)
 have hs:aq H₀ (upd H a (.lst vs)):=λb o z=>by rw [ne b (λe=>by rw [e,f0] at z; cases z)]; exact S.same b o z
 refine ⟨hs,by rw [List.length_set,S.len],λj t hj=>?_,S.fr,S.uq,S.ad,λj b hb=>?_⟩
 · by_cases ej:j=i
   · subst ej
     have hl:=(List.getElem?_eq_some_iff.mp hi).1
     rw [List.getElem?_set_self hl] at hj
     cases hj
     obtain ⟨a',vs',e1,e2,_,_⟩:=S.sl j _ hi
     rw [hB] at e1
     cases e1
     exact ⟨a,vs,hB,e2,aL,d.mono sm⟩
   · rw [List.getElem?_set_ne (λz=>ej z.symm)] at hj
     have q:=S.sl j t hj
     have off:∀ b ∈ B j,b ≠ a:=λb hb e=>ej (S.uq j i a (e ▸ hb) (by rw [hB]; exact List.mem_singleton.mpr rfl))
     cases t with
     | un=>exact q
     | d x=>obtain ⟨z,u,e,d⟩:=q; exact ⟨z,u,e,d.mono sm⟩
     | o zs=>
       obtain ⟨c,ws,z1,z2,z3,z4⟩:=q
       exact ⟨c,ws,z1,z2,by rw [ne c (off c (by rw [z1]; exact List.mem_singleton.mpr rfl))]; exact z3,z4.mono sm⟩
     | n t=>
       obtain ⟨z0,u,z1,z2⟩:=q
       exact ⟨z0,u,z1,z2.frame sm λb hb=>ne b (off b hb)⟩
     | x E=>
       obtain ⟨c,o,z1,z2,z3,z4⟩:=q
       exact ⟨c,o,z1,z2,by rw [ne c (off c (by rw [z1]; exact List.mem_singleton.mpr rfl))]; exact z3,E.mono sm z4⟩
 · by_cases e:b=a
   · subst e; exact ⟨_,aL⟩
   · rw [ne b e]; exact S.bd j b hb
theorem Sta.fz (S:Sta K A H₀ τ B σ H) {i:Nat} {s:Sl} {x:D} (hi:τ[i]?=some s) (hx:fzD s=some x):Sta K A H₀ (τ.set i (.d x)) (upB B i []) σ H:=
 S.less (λ_ z=>nomatch z) λG g hv=>by
   obtain ⟨u,e,d⟩:=(S.sl i s hi).den (G':=G) g (λb hb o ho=>hv b o hb (λz=>nomatch z) ho) hx
   exact ⟨rfl,u,e,d⟩
end
section
variable {X:Cx} {C:Bool} {τ:List Sl} {x y z:D} {a b e c:Expr} {es:List Expr} {pos p:Pos} {k:Nat} {s:Sl} {ds:List D} {N:Po} {st:Stmt} {rest body els:List Stmt}
theorem aO (h:N.nx τ):PSs X [] (dS X.K τ N):=nC qt λD σ H ⟨A,H₀,B,S,M⟩=>M.nx τ B σ H h S
theorem bz {M:List Sl->Prop} (h1:PS X st (dS X.K τ { N with nx:=M })) (h2:∀ τ',M τ'->PSs X rest (dS X.K τ' N)):PSs X (st :: rest) (dS X.K τ N):=by
 have h:PSs X rest λD σ H=>∃ τ',M τ'/\dS X.K τ' N D σ H:=λpins s σ H D I ⟨τ',m,q⟩=>h2 τ' m pins s σ H D I q
 exact nC (pY h1 h) λD σ H ⟨A,H₀,B,S,Me⟩=>⟨A,H₀,B,S,λτ' B' σ' H' m S'=>⟨τ',m,A,H₀,B',S',Me⟩,Me.bk,Me.ct,Me.rt,Me.xc⟩
theorem rj (i:Nat) {s:Sl} {x:D} (h:PSs X rest (dS X.K (τ.set i (.d x)) N)) (hi:τ[i]?=some s:=by rfl) (hx:fzD s=some x:=by rfl):PSs X rest (dS X.K τ N):=nC h λD σ H ⟨A,H₀,B,S,Me⟩=>⟨A,H₀,_,S.fz hi hx,Me⟩
theorem az (i:Nat) {n:Str} {p:Pos} (hN:X.N.Nodup) (he:PE X e (dE X.K true τ s)) (hr:PSs X rest (dS X.K (τ.set i s) N)) (hi:X.N[i]?=some n:=by rfl) (hx:Loc X.env.scope n:=by first | exact .inl rfl | exact .inr rfl) (hs:swapsWith e (some (.Name n p)) pos.line X.env=pure false:=by rfl)
   (hf:X.fn n=true\/X.env.scope.names.lookup n=some .local:=by first | exact .inl rfl | exact .inr rfl | assumption):PSs X (.Assign [.Name n p] e pos :: rest) (dS X.K τ N):=
 bz (M:=(·=τ.set i s)) (psW (sT hN hi hx he hs hf) λD σ H ⟨A,H₀,B,S,Me⟩=>⟨A,H₀,B,S,λv H' bs e hf h=>Me.nx _ _ _ _ rfl (S.set e hf h)⟩) λ_ e=>e ▸ hr
theorem ea (he:PE X e (dE X.K true τ s)) (hr:PSs X rest (dS X.K τ N)) (hs:swapsWith e none pos.line X.env=pure false:=by rfl):PSs X (.Expr e pos :: rest) (dS X.K τ N):=
 bz (M:=(·=τ)) (psW (jd he hs) λD σ H ⟨A,H₀,B,S,Me⟩=>⟨A,H₀,B,S,λv H' bs e hf h=>Me.nx _ _ _ _ rfl (S.mono e)⟩) λ_ e=>e ▸ hr
theorem aH (he:PE X e (dE X.K false τ s)) (h:N.rt s):PSs X (.Return (some e) pos :: rest) (dS X.K τ N):=
 bz (M:=λ_=>False) (psW (pk he) λD σ H ⟨A,H₀,B,S,Me⟩=>⟨A,H₀,B,S,λv H' bs e hf q=>Me.rt v H' bs s h (S.same.trans e) (λb hb=>⟨S.same.free (hf b hb).1,(hf b hb).2⟩) q⟩) λ_ e=>e.elim
theorem jC (i:Nat) {n:Str} (h:N.rt s) (hi:τ[i]?=some s:=by rfl) (h0:s ≠ .un:=by exact nofun) (hN:X.N[i]?=some n:=by rfl) (hv:Vis X.env.scope n:=by first | exact Or.inl rfl | exact Or.inr (Or.inl rfl) | exact Or.inr (Or.inr rfl))
   (hd:(n == ("__debug__" : Str))=false:=by decide) (hcd:(n == ("__classdict__" : Str))=false:=by decide):PSs X (.Return (some (.Name n p)) pos :: rest) (dS X.K τ N):=
 bz (M:=λ_=>False) (psW (pk (eg hN hv hd hcd)) λD σ H ⟨A,H₀,B,S,Me⟩=>by
   have q:=S.sl i s hi
   obtain ⟨u,e⟩:∃ u,(σ[i]?).join=some u:=by
     cases s with
     | un=>exact absurd rfl h0
     | d x=>obtain ⟨_,u,e,_⟩:=q; exact ⟨u,e⟩
     | o xs=>obtain ⟨_,_,_,e,_⟩:=q; exact ⟨_,e⟩
     | n t=>obtain ⟨_,u,e,_⟩:=q; exact ⟨u,e⟩
     | x E=>obtain ⟨_,_,_,e,_⟩:=q; exact ⟨_,e⟩
   rw [e] at q
   exact ⟨u,slot_of e,Me.rt u H (B i) s h S.same (λb hb=>⟨S.fr i b hb,S.bd i b hb⟩) (q.mono (ay (aq.refl _) λb z=>z.elim .inl λz=>.inr ⟨i,z⟩) (aq.refl _))⟩) λ_ e=>e.elim
theorem rR {H H':Hp} {σ:L2.St} {D:Ends} {A:Addr->Prop} {H₀:Hp} {B:Nat->List Addr} (S:Sta X.K A H₀ τ B σ H) (Me:Meets X.K A H₀ N D) (e:aq H H'):dS X.K τ N D σ H':=⟨A,H₀,B,S.mono e,Me⟩
theorem wc {t:Bool} (hc:PT X c (dT X.K τ t)) (ha:t=true->PSs X body (dS X.K τ N)) (hb:t=false->PSs X els (dS X.K τ N)):PS X (.If c body els pos) (dS X.K τ N):=by
 cases t with
 | true=>exact psW (si hc (ha rfl) iX) λD σ H ⟨A,H₀,B,S,Me⟩=>⟨A,H₀,B,S,λH' e=>nR (rR S Me e)⟩
 | false=>exact psW (si hc iX (hb rfl)) λD σ H ⟨A,H₀,B,S,Me⟩=>⟨A,H₀,B,S,λH' e=>nk (rR S Me e)⟩
theorem ko {t:Bool} {M:List Sl->Prop} (hc:PT X c (dT X.K τ t)) (ha:t=true->PSs X body (dS X.K τ { N with nx:=M })) (hb:t=false->PSs X els (dS X.K τ { N with nx:=M })) (hr:∀ τ',M τ'->PSs X rest (dS X.K τ' N)):PSs X (.If c body els pos :: rest) (dS X.K τ N):=
 bz (wc hc ha hb) hr
theorem b9 {t:Bool} (hc:PT X c (dT X.K τ t)) (ha:t=true->PSs X body (dS X.K τ { N with nx:=λ_=>False })) (hr:t=false->PSs X rest (dS X.K τ N)):PSs X (.If c body [] pos :: rest) (dS X.K τ N):=by
 cases t with
 | true=>exact ko (M:=λ_=>False) hc ha (λz=>nomatch z) λ_ z=>z.elim
 | false=>exact ko (M:=(·=τ)) hc (λz=>nomatch z) (λ_=>aO rfl) λ_ e=>e ▸ hr rfl
theorem fQ {t:Bool} (hc:PT X c (dT X.K τ t)) (ht:t=false) (hr:PSs X rest (dS X.K τ N)):PSs X (.If c body [] pos :: rest) (dS X.K τ N):=b9 hc (λz=>by rw [ht] at z; cases z) λ_=>hr
theorem my (i:Nat) {n:Str} {xs:List D} {ap cp:Pos} (he:PE X e (dE X.K true τ (.d x))) (hl:xs.length < 1000000) (hr:PSs X rest (dS X.K (τ.set i (.o (xs++[x]))) N)) (hi:τ[i]?=some (.o xs):=by rfl) (hN:X.N[i]?=some n:=by rfl)
   (hv:Vis X.env.scope n:=by first | exact Or.inl rfl | exact Or.inr (Or.inl rfl) | exact Or.inr (Or.inr rfl)) (hd:(n == ("__debug__" : Str))=false:=by decide) (hcd:(n == ("__classdict__" : Str))=false:=by decide)
   (hfew:((backTo cp (starEach [e] X.env)).all (λx=>!x.1) && (backToKw cp (keywordEach [] X.env)).all (λx=>x.1.isSome) && decide (([e]:List Expr).length + ([]:List Keyword).length + (if ([]:List Keyword).isEmpty then 0 else 1) < 30))=true:=by rfl)
   (hline:(ap.endLine == cp.line)=true:=by rfl) (hst:starEach [e] X.env=(false,eval e X.env) :: starEach [] X.env:=by rfl) (hpl:(backTo cp (starEach [] X.env)).any (·.1)=false:=by rfl)
   (hs:swapsWith (.Call (.Attribute (.Name n p) "append" ap) [e] [] cp) none pos.line X.env=pure false:=by rfl) (hbase:attributeBase (.Name n p) "append" X.env (eval (.Name n p) X.env)=eval (.Name n p) X.env:=by rfl) :
   PSs X (.Expr (.Call (.Attribute (.Name n p) "append" ap) [e] [] cp) pos :: rest) (dS X.K τ N):=
 bz (M:=(·=τ.set i (.o (xs++[x])))) (psW (jd (se PySem.F.plainAttrs_list PySem.F.slot_list_append PySem.F.type_list_append fK (eg hN hv hd hcd) (eQ he jb hst) hbase hfew hline hst hpl) hs) λD σ H ⟨A,H₀,B,S,Me⟩=>by
   obtain ⟨l,vs,hb,e1,e2,d⟩:=S.sl i _ hi
   refine ⟨_,slot_of e1,.inl ⟨rfl,_,SqL.of e2⟩,aQ S λv H1 e3 d1=>⟨l,vs,v,rfl,rfl,e3 _ _ e2,by rw [d.length]; exact Nat.lt_trans hl (by decide),?_⟩⟩
   exact Me.nx _ _ _ _ rfl ((S.mono e3).put hi hb ((d.mono (ay e3 λ_ z=>z)).append (.cons d1 .nil)))) λ_ e=>e ▸ hr
theorem mP {K:PySem.W.Frag} {H:Hp}:∀ {vs:List V} {ds:List D} {v:V} {d:D} (j:Nat),ar K H vs ds->Den K H v d->ar K H (vs.set j v) (ds.set j d)
 | _,_,_,_,_,.nil,_=>.nil
 | _,_,_,_,0,.cons _ r,h=>.cons h r
 | _,_,_,_,j + 1,.cons h' r,h=>.cons h' (mP j r h)
theorem vt (i:Nat) {n:Str} {xs:List D} {m:Int} {j:Nat} {ix:Expr} {sp:Pos} (hx:PE X ix (dE X.K false τ (.d (.int m)))) (he:PE X e (dE X.K true τ (.d x))) (hj:ixN xs.length m=some j) (hr:PSs X rest (dS X.K (τ.set i (.o (xs.set j x))) N)) (hi:τ[i]?=some (.o xs):=by rfl) (hN:X.N[i]?=some n:=by rfl)
   (hv:Vis X.env.scope n:=by first | exact Or.inl rfl | exact Or.inr (Or.inl rfl) | exact Or.inr (Or.inr rfl)) (hd:(n == ("__debug__" : Str))=false:=by decide) (hcd:(n == ("__classdict__" : Str))=false:=by decide)
   (hs:swapsWithSole [.Subscript (.Name n p) ix sp] e pos.line X.env=pure false:=by rfl) (hw:swappedStores [.Subscript (.Name n p) ix sp] e X.env=pure none:=by rfl) (h1:(assignEach [.Subscript (.Name n p) ix sp] X.env).map (·.2)=[assign (.Subscript (.Name n p) ix sp) X.env]:=by rfl)
   (ha:∀ v,assign (.Subscript (.Name n p) ix sp) X.env v=(do
     let ov <- holding [v] (eval (.Name n p) X.env)
     let iv <- holding [v,ov] (eval ix X.env)
     standAt sp
     holding [v,ov,iv] (setItem ov iv v)
     release [v,ov,iv] []):=by intro _; rfl) :
   PSs X (.Assign [.Subscript (.Name n p) ix sp] e pos :: rest) (dS X.K τ N):=
 bz (M:=(·=τ.set i (.o (xs.set j x)))) (psW (oX he (sH (eg hN hv hd hcd) hx set_list ha) hs hw h1) λD σ H ⟨A,H₀,B,S,Me⟩=>aQ S λv H1 e1 d1=>by
   obtain ⟨l,vs,hb,f1,f2,d⟩:=(S.mono e1).sl i _ hi
   refine ⟨_,slot_of f1,aQ (S.mono e1) λw H2 e2 d2=>?_⟩
   cases d2
   refine ⟨l,vs,m,j,rfl,rfl,e2 _ _ f2,by rw [d.length]; exact hj,?_⟩
   exact Me.nx _ _ _ _ rfl (((S.mono e1).mono e2).put hi hb (mP j (d.mono (ay e2 λ_ z=>z)) (d1.mono (ay e2 λ_ z=>z))))) λ_ e=>e ▸ hr
end
end Hy
namespace Hy
open PySem PySem.Spec PyProof.Rows L2
open Ev (D Den ar ah aM aG Ite Itz tG um jn k4 aC d9 cC PTs bU cW)
noncomputable def Yl (K:PySem.W.Frag) (J:L2.It) (xs:List D) (G:Hp):Prop:=∀ H,aq G H->(∀ i,xs.length<=i->J.stop i H)/\∀ (i:Nat) (h:i < xs.length),J.go i H /\
 ∀ x H',J.yld i H x H'->aq H H'/\∀ M:Addr->Prop,(∀ b,M b->∃ o,H b=some o)->aq G (hd H M)->Den K (hd H' M) x xs[i]
noncomputable def dI (K:PySem.W.Frag) (τ:List Sl) (xs:List D):TI:=λσ H R=>∃ A H₀ B,Sta K A H₀ τ B σ H/\∀ J H',aq H H'->Yl K J xs (hd H' (own A B))->R J H'
noncomputable def dG (K:PySem.W.Frag) (τ:List Sl) (x:D) (τ':List Sl):TG:=λv σ H Q=>∃ A H₀ B,Sta K A H₀ τ B σ H/\Den K (hd H (own A B)) v x/\∀ σ' B',Sta K A H₀ τ' B' σ' H->Q σ' H
theorem piW {X:Cx} {tg e:Expr} {t t':TI} (h:PI X tg e t) (f:∀ σ H Q,t' σ H Q->t σ H Q):PI X tg e t':=λpins s σ H Q I q=>h pins s σ H Q I (f σ H Q q)
theorem pgW {X:Cx} {e:Expr} {t t':TG} (h:PG X e t) (f:∀ v σ H Q,t' v σ H Q->t v σ H Q):PG X e t':=λpins s σ H v u Q I r q=>h pins s σ H v u Q I r (f v σ H Q q)
section
variable {K:PySem.W.Frag} {G:Hp} {a:Addr} {vs:List V} {xs:List D}
theorem qj (h:SqL K G a vs) (r:ar K G vs xs):Yl K (Itl K a) xs G:=by
 intro H sg
 have hl:=r.length
 refine ⟨λi hi=>⟨vs,aG sg h,by omega⟩,λi hi=>?_⟩
 obtain ⟨v,hv,dv⟩:=r.get (List.getElem?_eq_getElem hi)
 refine ⟨⟨vs,v,aG sg h,hv⟩,λx H' ⟨e1,e2⟩=>?_⟩
 subst e1
 have ex:x=v:=by have:=e2 vs (aG sg h); rw [hv] at this; exact (Option.some.inj this).symm
 subst ex
 exact ⟨aq.refl _,λM _ sv=>dv.mono sv⟩
theorem uB (h:SqT K G a vs) (r:ar K G vs xs):Yl K (Itt K a) xs G:=by
 intro H sg
 have hl:=r.length
 refine ⟨λi hi=>⟨vs,aM sg h,by omega⟩,λi hi=>?_⟩
 obtain ⟨v,hv,dv⟩:=r.get (List.getElem?_eq_getElem hi)
 refine ⟨⟨vs,v,aM sg h,hv⟩,λx H' ⟨e1,e2⟩=>?_⟩
 subst e1
 have ex:x=v:=by have:=e2 vs (aM sg h); rw [hv] at this; exact (Option.some.inj this).symm
 subst ex
 exact ⟨aq.refl _,λM _ sv=>dv.mono sv⟩
noncomputable def fU (lo:Int) (n:Nat):List D:=(List.range n).map λk=>D.int (lo + (k:Nat))
theorem aw (lo:Int) (n:Nat):(fU lo n).length=n:=by simp [fU]
theorem e8 (lo:Int) (n i:Nat) (h:i < (fU lo n).length):(fU lo n)[i]=.int (lo + (i:Nat)):=by simp [fU]
theorem pC (lo:Int) (n:Nat):Yl K (Itr lo n) (fU lo n) G:=by
 intro H sg
 refine ⟨λi hi=>by rw [aw] at hi; exact hi,λi hi=>?_⟩
 have hi':i < n:=by rw [aw] at hi; exact hi
 refine ⟨hi',λx H' ⟨e1,e2⟩=>?_⟩
 subst e1 e2
 refine ⟨aq.refl _,λM _ sv=>?_⟩
 rw [e8]
 exact .int
noncomputable def fB (xs:List D):List D:=(List.range xs.length).map λi=>D.tup [.int (i:Nat),xs.getD i .non]
theorem b7 (xs:List D):(fB xs).length=xs.length:=by simp [fB]
theorem jm (xs:List D) (i:Nat) (h:i < (fB xs).length):(fB xs)[i]=.tup [.int (i:Nat),xs.getD i .non]:=by simp [fB]
theorem tR (h:SqL K G a vs) (r:ar K G vs xs):Yl K (Ite K a) (fB xs) G:=by
 intro H sg
 have hl:=r.length
 have el:=b7 xs
 refine ⟨λi hi=>⟨vs,aG sg h,by omega⟩,λi hi=>?_⟩
 have hi':i < xs.length:=by omega
 obtain ⟨v,hv,dv⟩:=r.get (List.getElem?_eq_getElem hi')
 refine ⟨⟨vs,v,aG sg h,hv⟩,λy H' ⟨p,x,hp,e0,e1,e2⟩=>?_⟩
 subst e0 e1
 have ex:x=v:=by have:=e2 vs (aG sg h); rw [hv] at this; exact (Option.some.inj this).symm
 subst ex
 refine ⟨ah hp _,λM hM sv=>?_⟩
 rw [jm,show xs.getD i .non=xs[i] by simp [List.getD,hi']]
 exact .tup (SqT.of (hJ hM hp)) (.cons .int (.cons (dv.mono (sv.trans (ay (ah hp _) λ_ z=>z))) .nil))
end
section
variable {X:Cx} {C:Bool} {τ:List Sl} {x y z:D} {a b e c tg it:Expr} {es:List Expr} {pos p q:Pos} {k:Nat} {s:Sl} {xs:List D} {N:Po} {st:Stmt} {rest body els:List Stmt}
theorem aS (h:PE X it (dE X.K true τ (.d (.lst xs)))) (hc:X.calm=true:=by first | rfl | assumption):PI X tg it (dI X.K τ xs):=piW (qy hc h) λσ H R ⟨A,H₀,B,S,k⟩=>aQ S λv H1 e1 d1=>by
 cases d1 with
 | lst h r=>exact ⟨_,rfl,⟨_,aG aI h⟩,k _ H1 e1 (qj h r)⟩
theorem uU (h:PE X it (dE X.K true τ (.d (.tup xs)))) (hc:X.calm=true:=by first | rfl | assumption):PI X tg it (dI X.K τ xs):=piW (sY hc h) λσ H R ⟨A,H₀,B,S,k⟩=>aQ S λv H1 e1 d1=>by
 cases d1 with
 | tup h r=>exact ⟨_,rfl,⟨_,aM aI h⟩,k _ H1 e1 (uB h r)⟩
theorem c8 {n:Int} (B:Bk X k) (h:PE X a (dE X.K false τ (.d (.int n)))) (h1:-(2 ^ 62)<=n) (h2:n < 2 ^ 62) (hg:Gl X "range":=by rfl) (hs:starEach [a] X.env=[(false,eval a X.env)]:=by rfl):PI X tg (.Call (.Name "range" p) [a] [] pos) (dI X.K τ (fU 0 n.toNat)):=
 piW (nV (.inl B.calm) hg (B.blt _ (by decide)) (ab h af hs) hs) λσ H R ⟨A,H₀,B,S,k⟩=>fb S λvs H1 e1 d1=>by
   cases d1 with
   | cons d r=>
     cases r
     cases d
     exact ⟨n,rfl,h1,h2,k _ H1 e1 (pC 0 _)⟩
theorem gw {m n:Int} (B:Bk X k) (h:PE X a (dE X.K false τ (.d (.int m)))) (h':PE X b (dE X.K false τ (.d (.int n)))) (h1:-(2 ^ 62)<=m/\m < 2 ^ 62/\-(2 ^ 62)<=n/\n < 2 ^ 62) (hg:Gl X "range":=by rfl) (hs:starEach [a,b] X.env=[(false,eval a X.env),(false,eval b X.env)]:=by rfl)
   (hs2:starEach [b] X.env=[(false,eval b X.env)]:=by rfl):PI X tg (.Call (.Name "range" p) [a,b] [] pos) (dI X.K τ (fU m (n - m).toNat)):=
 piW (nY (.inl B.calm) hg (B.blt _ (by decide)) (ab h (ab h' af hs2) (by rw [hs,hs2])) hs hs2) λσ H R ⟨A,H₀,B,S,k⟩=>fb S λvs H1 e1 d1=>by
   cases d1 with
   | cons d r=>
     cases r with
     | cons d' r=>
       cases r
       cases d
       cases d'
       exact ⟨m,n,rfl,h1,k _ H1 e1 (pC m _)⟩
theorem oR {ts:List Expr} {m:Nat} {tp:Pos} (B:Bk X k) (h:PE X a (dE X.K true τ (.d (.lst xs)))) (hg:Gl X "enumerate":=by rfl) (hs:starEach [a] X.env=[(false,eval a X.env)]:=by rfl):PI X (.Tuple ts m tp) (.Call (.Name "enumerate" p) [a] [] pos) (dI X.K τ (fB xs)):=
 piW (jn B.calm hg (B.blt _ (by decide)) (ab h af hs) hs) λσ H R ⟨A,H₀,B,S,k⟩=>fb S λvs H1 e1 d1=>by
   cases d1 with
   | cons d r=>
     cases r
     cases d with
     | lst h r=>exact ⟨_,rfl,⟨_,aG aI h⟩,k _ H1 e1 (tR h r)⟩
theorem tw (i:Nat) {n:Str} (hN:X.N.Nodup) (hi:X.N[i]?=some n:=by rfl) (hx:Loc X.env.scope n:=by first | exact .inl rfl | exact .inr rfl) (hf:X.fn n=true\/X.env.scope.names.lookup n=some .local:=by first | exact .inl rfl | exact .inr rfl | assumption):PG X (.Name n p) (dG X.K τ x (τ.set i (.d x))):=
 pgW (eU (i:=i) hN hi hx hf) λv σ H Q ⟨A,H₀,B,S,d,k⟩=>k _ _ (S.set (aq.refl _) (bs:=[]) (λ_ z=>nomatch z) (eM d))
theorem rQ (i j:Nat) {n m:Str} {p2 pt:Pos} {md:Nat} (hc:X.calm=true) (hN:X.N.Nodup) (hi:X.N[i]?=some n:=by rfl) (hj:X.N[j]?=some m:=by rfl) (hx:Loc X.env.scope n:=by first | exact .inl rfl | exact .inr rfl) (hy:Loc X.env.scope m:=by first | exact .inl rfl | exact .inr rfl)
   (hf:X.fn n=true\/X.env.scope.names.lookup n=some .local:=by first | exact .inl rfl | exact .inr rfl | assumption) (hf':X.fn m=true\/X.env.scope.names.lookup m=some .local:=by first | exact .inl rfl | exact .inr rfl | assumption) :
   PG X (.Tuple [.Name n p,.Name m p2] md pt) (dG X.K τ (.tup [x,y]) ((τ.set i (.d x)).set j (.d y))):=by
 refine pgW (pe hc (gK (eU (i:=i) hN hi hx hf) (gK (eU (i:=j) hN hj hy hf') mh))) λv σ H Q ⟨A,H₀,B,S,d,k⟩=>?_
 cases d with
 | tup h r=>
   cases r with
   | cons d1 r=>
     cases r with
     | cons d2 r=>
       cases r
       have S1:=S.set (i:=i) (aq.refl _) (bs:=[]) (λ_ z=>nomatch z) (eM d1)
       have sub:∀ b,own A (upB B i []) b->own A B b:=λb z=>z.elim .inl λ⟨j,z⟩=>(ba z).elim (λz=>nomatch z.2) λz=>.inr ⟨j,z.2⟩
       exact ⟨_,_,rfl,aM aI h,rfl,_,_,rfl,_,_,rfl,rfl,k _ _ (S1.set (i:=j) (aq.refl _) (bs:=[]) (λ_ z=>nomatch z) (eM (d2.mono (ay (aq.refl _) sub))))⟩
theorem Sta.base {K:PySem.W.Frag} {A:Addr->Prop} {H₀ H:Hp} {τ:List Sl} {B:Nat->List Addr} {σ:L2.St} (S:Sta K A H₀ τ B σ H):aq H₀ (hd H λb=>∃ i,b ∈ B i)/\Sta K A (hd H λb=>∃ i,b ∈ B i) τ B σ H:=by
 have s0:aq H₀ (hd H λb=>∃ i,b ∈ B i):=λb o h=>aB.mpr ⟨λ⟨i,z⟩=>(by rw [S.fr i b z] at h; cases h),S.same _ _ h⟩
 exact ⟨s0,aI,S.len,S.sl,λi b hb=>by
   cases e:hd H (λb=>∃ i,b ∈ B i) b with
   | none=>rfl
   | some o=>exact absurd ⟨i,hb⟩ (aB.mp e).1,S.uq,λb hb=>let ⟨o,q⟩:=S.ad b hb; ⟨o,s0 _ _ q⟩,S.bd⟩
theorem Sta.back {K:PySem.W.Frag} {A:Addr->Prop} {H₀ G H:Hp} {τ:List Sl} {B:Nat->List Addr} {σ:L2.St} (S:Sta K A G τ B σ H) (s:aq H₀ G) (ad:∀ b,A b->∃ o,H₀ b=some o):Sta K A H₀ τ B σ H:=
 ⟨s.trans S.same,S.len,S.sl,λi b hb=>s.free (S.fr i b hb),S.uq,ad,S.bd⟩
theorem rJ {M:Nat->List Sl->Prop} {T:Nat->List Sl->List Sl} (B:Bk X k) (hi:PI X tg it (dI X.K τ xs)) (h0:M 0 τ) (hg:∀ i (h:i < xs.length) τ',M i τ'->PG X tg (dG X.K τ' xs[i] (T i τ')))
   (hb:∀ i,i < xs.length->∀ τ',M i τ'->PSs X body (dS X.K (T i τ') { N with nx:=M (i + 1),ct:=M (i + 1),bk:=N.nx })) (hn:∀ τ',M xs.length τ'->N.nx τ')
   (hs:∀ x,foldedSetIterable it X.env x=pure x:=by intro _; rfl):PS X (.For tg it body [] pos) (dS X.K τ N):=by
 have hg':PG X tg λv σ H Q=>∃ (i:Nat) (h:i < xs.length) (τ':List Sl),M i τ'/\dG X.K τ' xs[i] (T i τ') v σ H Q:=λpins s σ H v u Q I r ⟨i,h,τ',m,q⟩=>hg i h τ' m pins s σ H v u Q I r q
 have hb':PSs X body λD σ H=>∃ i τ',i < xs.length/\M i τ'/\dS X.K (T i τ') { N with nx:=M (i + 1),ct:=M (i + 1),bk:=N.nx } D σ H:=λpins s σ H D I ⟨i,τ',h,m,q⟩=>hb i h τ' m pins s σ H D I q
 refine psW (uj B.po hi hg' hb' hs) λD σ H ⟨A,H₀,B,S,Me⟩=>⟨A,H₀,B,S,λJ H1 e1 yl=>?_⟩
 obtain ⟨s0,S1⟩:=(S.mono e1).base
 have sub:∀ {H'},aq (hd H1 λb=>∃ i,b ∈ B i) H'->aq (hd H1 (own A B)) H':=λe=>(ay (aq.refl _) λ_ z=>.inr z).trans e
 refine ⟨λi m σ' H'=>m=xs.length - i/\i<=xs.length/\∃ τ' B',M i τ'/\Sta X.K A (hd H1 λb=>∃ i,b ∈ B i) τ' B' σ' H',⟨xs.length,rfl,Nat.zero_le _,τ,B,h0,S1⟩,?_⟩
 rintro i m σ' H' ⟨rfl,hi,τ',B',hM,S'⟩
 obtain ⟨y1,y2⟩:=yl H' (sub S'.same)
 by_cases hlt:i < xs.length
 · obtain ⟨g,y⟩:=y2 i hlt
   refine .inr ⟨g,λσ2 H2=>∃ τ2 B2,M (i + 1) τ2/\Sta X.K A (hd H1 λb=>∃ i,b ∈ B i) τ2 B2 σ2 H2,λσ2 H2 q=>⟨xs.length - (i + 1),by omega,rfl,hlt,q⟩,λx H2 hy=>?_⟩
   obtain ⟨e2,dx⟩:=y x H2 hy
   have S2:=S'.mono e2
   refine ⟨i,hlt,τ',hM,A,_,B',S2,dx (own A B') S'.dm ?_,λσ3 B3 S3=>⟨i,τ',hlt,hM,A,_,B3,S3,?_⟩⟩
   · intro b o z
     obtain ⟨z1,z2⟩:=aB.mp z
     have z3:hd H1 (λb=>∃ i,b ∈ B i) b=some o:=aB.mpr ⟨λy=>z1 (.inr y),z2⟩
     refine aB.mpr ⟨λy=>?_,S'.same _ _ z3⟩
     rcases y with y | ⟨l,y⟩
     · exact z1 (.inl y)
     · rw [S'.fr l b y] at z3; cases z3
   · exact ⟨λτ3 B3 σ3 H3 m S3=>⟨τ3,B3,m,S3⟩,λτ3 B3 σ3 H3 m S3=>Me.nx τ3 B3 σ3 H3 m (S3.back s0 S.ad),λτ3 B3 σ3 H3 m S3=>⟨τ3,B3,m,S3⟩,
       λv H3 bs s3 hr e3 hf q=>Me.rt v H3 bs s3 hr (s0.trans e3) (λb hb=>⟨s0.free (hf b hb).1,(hf b hb).2⟩) q,λH3 e3=>Me.xc H3 (s0.trans e3)⟩
 · have e:i=xs.length:=by omega
   subst e
   exact .inl ⟨y1 _ (Nat.le_refl _),Me.nx τ' B' σ' H' (hn τ' hM) (S'.back s0 S.ad)⟩
theorem bI (j:Nat) {n:Str} (M:Nat->List Sl->Prop) {g:Nat->D} (B:Bk X k) (hN:X.N.Nodup) (hi:PI X (.Name n p) it (dI X.K τ xs)) (hx:∀ i (h:i < xs.length),xs[i]=g i) (h0:M 0 τ)
   (hb:∀ i,i < xs.length->∀ τ',M i τ'->PSs X body (dS X.K (τ'.set j (.d (g i))) { N with nx:=M (i + 1),ct:=M (i + 1),bk:=λ_=>False }))
   (hr:∀ τ',M xs.length τ'->PSs X rest (dS X.K τ' N)) (hs:∀ x,foldedSetIterable it X.env x=pure x:=by intro _; rfl) (hi':X.N[j]?=some n:=by rfl) (hl:Loc X.env.scope n:=by first | exact .inl rfl | exact .inr rfl)
   (hf:X.fn n=true\/X.env.scope.names.lookup n=some .local:=by first | exact .inl rfl | exact .inr rfl | assumption):PSs X (.For (.Name n p) it body [] pos :: rest) (dS X.K τ N):=
 bz (M:=M xs.length) (rJ (M:=M) (T:=λi τ'=>τ'.set j (.d (g i))) B hi h0 (λi h τ' m=>by rw [hx i h]; exact tw j hN hi' hl hf)
   (λi h τ' m=>nC (hb i h τ' m) λD σ H ⟨A,H₀,B,S,Me⟩=>⟨A,H₀,B,S,Me.nx,λ_ _ _ _ z=>z.elim,Me.ct,Me.rt,Me.xc⟩) (λ_ m=>m) hs) hr
theorem lI (j l:Nat) {n m:Str} {p2 pt:Pos} {md:Nat} (M:Nat->List Sl->Prop) {g g':Nat->D} (B:Bk X k) (hN:X.N.Nodup) (hi:PI X (.Tuple [.Name n p,.Name m p2] md pt) it (dI X.K τ xs)) (hx:∀ i (h:i < xs.length),xs[i]=.tup [g i,g' i]) (h0:M 0 τ)
   (hb:∀ i,i < xs.length->∀ τ',M i τ'->PSs X body (dS X.K ((τ'.set j (.d (g i))).set l (.d (g' i))) { N with nx:=M (i + 1),ct:=M (i + 1),bk:=λ_=>False }))
   (hr:∀ τ',M xs.length τ'->PSs X rest (dS X.K τ' N)) (hs:∀ x,foldedSetIterable it X.env x=pure x:=by intro _; rfl) (hi':X.N[j]?=some n:=by rfl) (hj':X.N[l]?=some m:=by rfl) (hl:Loc X.env.scope n:=by first | exact .inl rfl | exact .inr rfl) (hl':Loc X.env.scope m:=by first | exact .inl rfl | exact .inr rfl)
   (hf:X.fn n=true\/X.env.scope.names.lookup n=some .local:=by first | exact .inl rfl | exact .inr rfl | assumption) (hf':X.fn m=true\/X.env.scope.names.lookup m=some .local:=by first | exact .inl rfl | exact .inr rfl | assumption):PSs X (.For (.Tuple [.Name n p,.Name m p2] md pt) it body [] pos :: rest) (dS X.K τ N):=
 bz (M:=M xs.length) (rJ (M:=M) (T:=λi τ'=>(τ'.set j (.d (g i))).set l (.d (g' i))) B hi h0 (λi h τ' m=>by rw [hx i h]; exact rQ j l B.calm hN hi' hj' hl hl' hf hf')
   (λi h τ' m=>nC (hb i h τ' m) λD σ H ⟨A,H₀,B,S,Me⟩=>⟨A,H₀,B,S,Me.nx,λ_ _ _ _ z=>z.elim,Me.ct,Me.rt,Me.xc⟩) (λ_ m=>m) hs) hr
theorem cY {n:Nat} (i:Nat) (h:i < (fU 0 n).length):(fU 0 n)[i]=.int (i:Nat):=by rw [e8,Int.zero_add]
theorem rL {bs:List Int} (i:Nat) (h:i < (bs.map D.int).length):(bs.map D.int)[i]=.int (bs.getD i 0):=by
 have:i < bs.length:=by simpa using h
 simp [this]
theorem rZ {bs:List Int} (i:Nat) (h:i < (fB (bs.map D.int)).length):(fB (bs.map D.int))[i]=.tup [.int (i:Nat),.int (bs.getD i 0)]:=by
 have:i < bs.length:=by rw [b7] at h; simpa using h
 rw [jm]
 simp [this]
end
end Hy
namespace Hy
open PySem PySem.Spec PyProof.Rows L2
open Ev (D Den ar ah aM aG aC d9 cC PTs bU cW kE)
noncomputable def slot:List Str->Str->Option Nat
 | [],_=>none
 | y :: r,x=>if x=y then some 0 else (slot r x).map (· + 1)
theorem slot_get:∀ {N:List Str} {x:Str} {i:Nat},slot N x=some i->N[i]?=some x
 | [],_,_,h=>by cases h
 | y :: r,x,i,h=>by
   unfold slot at h
   split at h
   · cases h; rename_i e; rw [e]; rfl
   · cases e:slot r x with
     | none=>rw [e] at h; cases h
     | some j=>rw [e] at h; cases h; simpa using slot_get e
noncomputable def oY (scope sc:Scope):Scope:={ scope with names:=scope.names.map λ(n,k)=>if (k == .free && sc.kind == .function && sc.names.lookup n == some .cell) then (n,.cell) else (n,k) }
noncomputable def bNm (scope:Scope):List Str:=(scope.names.filter λp=>(p.2 == .local || p.2 == .cell || p.2 == .free) && p.1 != (".0" : Str)).map (·.1)
noncomputable def bCp (No:List Str) (scope:Scope):List (Option Nat):=(bNm scope).map λx=>if (x,NameKind.free) ∈ scope.names then slot No x else none
noncomputable def bOk (sc scope:Scope):Bool:=
 scope.kind == .function && scope.names.all (λp=>p.2 != .local || scope.names.lookup p.1 == some .local) && scope.names.all (λp=>p.2 != .free || sc.names.lookup p.1 == some .cell)
   && scope.names.all (λp=>p.2 != .free || (!decide ((p.1,NameKind.cell) ∈ scope.names) && !decide ((p.1,NameKind.local) ∈ scope.names))) && decide (bNm scope++[("#" : Str)]).Nodup
   && (oY scope sc).names.all (λp=>p.1 != ("#" : Str))
theorem o8 {a b:Bool} (h:(a && b)=true):a=true/\b=true:=by rw [Bool.and_eq_true] at h; exact h
theorem pV {x:Str} {q:NameKind}:∀ {names:List (Str × NameKind)},names.lookup x=some q->(x,q) ∈ names
 | (y,k) :: r,h=>by
   rw [List.lookup_cons] at h
   split at h
   · rename_i e; cases h; rw [eq_of_beq e]; exact List.mem_cons_self ..
   · exact List.mem_cons_of_mem _ (pV h)
theorem fX {X:Cx} {scope:Scope} (h:bOk X.env.scope scope=true):cC X scope (bNm scope++[("#" : Str)]) (bCp X.N scope)/\(bNm scope++[("#" : Str)]).Nodup:=by
 unfold bOk at h
 obtain ⟨h,h6⟩:=o8 h
 obtain ⟨h,h5⟩:=o8 h
 obtain ⟨h,h4⟩:=o8 h
 obtain ⟨h,h3⟩:=o8 h
 obtain ⟨h1,h2⟩:=o8 h
 rw [List.all_eq_true] at h2 h3 h4 h6
 refine ⟨⟨eq_of_beq h1,λx hx hk=>?_,λx hx hk=>?_,λx hx hm=>?_,λx hx hm=>?_,?_,λj i hj=>?_,?_⟩,of_decide_eq_true h5⟩
 · have:=h2 x hx; rw [hk] at this; simpa using this
 · have:=h3 x hx; rw [hk] at this; show X.env.scope.names.lookup x.1=_; simpa using this
 · have:=h4 _ hx; simp [hm] at this
 · have:=h4 _ hx; simp [hm] at this
 · unfold bCp; rw [List.length_append,List.length_map]; rfl
 · unfold bCp at hj
   rw [List.getElem?_map] at hj
   cases e:(bNm scope)[j]? with
   | none=>rw [e] at hj; cases hj
   | some x=>
     rw [e] at hj
     simp only [Option.map_some,Option.some.injEq] at hj
     split at hj
     · exact ⟨x,by rw [List.getElem?_append_left (List.getElem?_eq_some_iff.mp e).1]; exact e,slot_get hj,by assumption⟩
     · cases hj
 · refine ⟨("#" : Str),?_,λhv=>?_⟩
   · unfold bCp; rw [List.length_map,List.getElem?_append_right (Nat.le_refl _),Nat.sub_self]; rfl
   · have key:∀ q,(oY scope X.env.scope).names.lookup ("#" : Str) ≠ some q:=λq hq=>by
       have:=h6 _ (pV hq)
       simp at this
     rcases hv with hv | hv | hv <;> exact key _ hv
noncomputable abbrev cpX (X:Cx) (s:Shared) (H:Hp) (scope:Scope) (fp:List Addr):Cx:=aC X s H scope (bNm scope++[("#" : Str)]) fp
theorem Bk.comp {X:Cx} {k:Nat} (B:Bk X k) (s:Shared) (H:Hp) (scope:Scope) (fp:List Addr):Bk (cpX X s H scope fp) k:=⟨B.room,B.calm,B.blt,PassesOwn.never⟩
noncomputable def bD (τ:List Sl) (caps:List (Option Nat)):List Sl:=caps.map λo=>match o with
 | some i=>match τ[i]? with
   | some (.d x)=>.d x
   | _=>.un
 | none=>.un
theorem mj {X:Cx}:PTs X [] λ_ H Q=>Q true H:=λpins s σ H Q I q=>by
 show wpAny _ _ (pure true) _ _ _
 exact wpAny_pure ⟨H,I,q⟩
section
variable {X:Cx} {C:Bool} {τ:List Sl} {x y z:D} {a b e c tg it elt:Expr} {es ifs:List Expr} {pos p q:Pos} {k:Nat} {xs:List D} {scope:Scope}
structure Cmp (X:Cx) (elt tg it:Expr) (ifs:List Expr) (scope:Scope) (τ:List Sl) (ys:List D):Prop where
 ex:∃ (In:TG->TT->TE->Prop) (caps:List (Option Nat)) (N:List Str) (wi:TI),cC X scope N caps/\PI X tg it wi/\(∀ g tt te,In g tt te->∀ s H fp,PG (aC X s H scope N fp) tg g/\PTs (aC X s H scope N fp) ifs tt/\PE (aC X s H scope N fp) elt te) /\
   ∀ C σ H Q,dE X.K C τ (.o ys) σ H Q->cW In caps wi σ H Q
 hs:∀ x,foldedSetIterable it X.env x=pure x
theorem bL {ys:List D} (h:Cmp X elt tg it ifs scope τ ys):PE X (.ListComp elt [⟨tg,it,ifs,0⟩] scope pos) (dE X.K C τ (.o ys)):=by
 obtain ⟨In,caps,N,wi,h1,h2,h3,h4⟩:=h.ex
 exact peW (bU h1 h2 h.hs h3) (h4 C)
theorem hG (i:Nat) {n:Str} {p spos:Pos} {rest:List Stmt} {N:Po} {ys:List D} {s:Sl} (hN:X.N.Nodup) (h:Cmp X elt tg it ifs scope τ ys) (hz:s=.o ys\/s=.d (.lst ys)) (hr:PSs X rest (dS X.K (τ.set i s) N)) (hi:X.N[i]?=some n:=by rfl) (hx:Loc X.env.scope n:=by first | exact .inl rfl | exact .inr rfl)
   (hsw:swapsWith (.ListComp elt [⟨tg,it,ifs,0⟩] scope pos) (some (.Name n p)) spos.line X.env=pure true:=by rfl) (hf:X.fn n=true\/X.env.scope.names.lookup n=some .local:=by first | exact .inl rfl | exact .inr rfl | assumption) :
   PSs X (.Assign [.Name n p] (.ListComp elt [⟨tg,it,ifs,0⟩] scope pos) spos :: rest) (dS X.K τ N):=by
 obtain ⟨In,caps,N',wi,h1,h2,h3,h4⟩:=h.ex
 have h5:∀ σ H Q,dE X.K true τ s σ H Q->cW In caps wi σ H Q:=by
   rcases hz with rfl | rfl
   · exact h4 true
   · intro σ H Q q
     obtain ⟨A,H₀,B,S,k⟩:=dg q
     refine h4 true σ H Q ⟨A,H₀,B,S,λv H' bs e hf q=>?_⟩
     obtain ⟨u,e1,d⟩:=q.den (G':=Hy.hd H' (vw true A B)) (ay (aq.refl _) λ_ z=>.inl z) (λb hb o ho=>aB.mpr ⟨λz=>(by obtain ⟨_,q⟩:=S.vd (C:=true) b z; rw [(hf b hb).1] at q; cases q),ho⟩) rfl
     cases e1
     exact k v H' e d
 exact bz (M:=(·=τ.set i s)) (psW (kE (eU (i:=i) hN hi hx hf) h1 h2 h.hs h3 hsw) λD σ H ⟨A,H₀,B,S,Me⟩=>h5 _ _ _ ⟨A,H₀,B,S,λv H' bs e hf h=>Me.nx _ _ _ _ rfl (S.set e hf h)⟩) λ_ e=>e ▸ hr
theorem kL {T:Nat->List Sl} {t:Nat->Bool} {f:Nat->D} (hc:bOk X.env.scope scope=true) (hi:PI X tg it (dI X.K τ xs)) (hT:∀ i,(T i).length=(bD τ (bCp X.N scope)++[Sl.un]).length/\∀ (l:Nat) (x:D),(bD τ (bCp X.N scope)++[Sl.un])[l]?=some (.d x)->(T i)[l]?=some (.d x))
   (hg:∀ i (h:i < xs.length) s H fp,PG (cpX X s H scope fp) tg (dG X.K (bD τ (bCp X.N scope)++[Sl.un]) xs[i] (T i)))
   (ht:∀ i,i < xs.length->∀ s H fp,PTs (cpX X s H scope fp) ifs (dT X.K (T i) (t i)))
   (he:∀ i,i < xs.length->t i=true->∀ s H fp,PE (cpX X s H scope fp) elt (dE X.K true (T i) (.d (f i)))) (hl:xs.length < 1000000) (hs:∀ x,foldedSetIterable it X.env x=pure x:=by intro _; rfl) :
   Cmp X elt tg it ifs scope τ (((List.range xs.length).filter t).map f):=by
 obtain ⟨cap,_⟩:=fX hc
 generalize hτ:bD τ (bCp X.N scope)++[Sl.un]=τb at *
 refine ⟨⟨λg tt te=>g=(λv σ H Q=>∃ (i:Nat) (h:i < xs.length),dG X.K τb xs[i] (T i) v σ H Q)/\tt=(λσ H Q=>∃ i,i < xs.length/\dT X.K (T i) (t i) σ H Q)/\te=(λσ H Q=>∃ i,i < xs.length/\t i=true/\dE X.K true (T i) (.d (f i)) σ H Q),_,_,_,cap,hi,?_,?_⟩,hs⟩
 · rintro g tt te ⟨rfl,rfl,rfl⟩ s H fp
   exact ⟨λpins s' σ H' v u Q I r ⟨i,h,q⟩=>hg i h s H fp pins s' σ H' v u Q I r q,λpins s' σ H' Q I ⟨i,h,q⟩=>ht i h s H fp pins s' σ H' Q I q,λpins s' σ H' Q I ⟨i,h,h',q⟩=>he i h h' s H fp pins s' σ H' Q I q⟩
 rintro C σ H Q ⟨A,H₀,B,S,kk⟩
 refine ⟨A,H₀,B,S,λJ H1 e1 yl=>⟨_,_,_,⟨rfl,rfl,rfl⟩,λD hD=>?_⟩⟩
 have S1:=S.mono e1
 have nD:¬ own A B D:=λz=>by obtain ⟨o,q⟩:=S1.dm D z; rw [hD] at q; cases q
 have noN:∀ (l:Nat) (t:Nd),τb[l]?=some (.n t)->0 ≠ 0:=λl t h=>by
   exfalso
   rw [<- hτ] at h
   have:=List.mem_of_getElem? h
   rcases List.mem_append.mp this with z | z
   · unfold bD at z
     obtain ⟨o,_,ho⟩:=List.mem_map.mp z
     split at ho
     · split at ho <;> cases ho
     · cases ho
   · cases List.mem_singleton.mp z
 have slots:∀ {σ':L2.St} {H':Hp},aq H1 H'->(∃ o,H' D=some o)->σ'.length=τb.length->(∀ (l:Nat) (s:Sl),τb[l]?=some s->cK X.K (hd H' λb=>own A B b\/b=D) H' (σ'[l]?).join [] s)->Sta X.K (λb=>own A B b\/b=D) H' τb (λ_=>[]) σ' H':=λ{σ' H'} e1 e2 e3 e4=>
   ⟨aq.refl _,e3,λl s h=>(e4 l s h).mono (ay (aq.refl _) λ_ z=>z.elim id λ⟨_,z⟩=>(nomatch z)) (aq.refl _),λ_ _ z=>(nomatch z),λ_ _ _ z=>(nomatch z),λb z=>z.elim (λz=>let ⟨o,q⟩:=S1.dm b z; ⟨o,e1 _ _ q⟩) λz=>z ▸ e2,λ_ _ z=>(nomatch z)⟩
 refine ⟨λi m σ' H'=>m=xs.length - i/\i<=xs.length/\aq H1 H'/\(∃ vs,H' D=some (.lst vs)/\vs.length<=i/\ar X.K (hd H' λb=>own A B b\/b=D) vs (((List.range i).filter t).map f)) /\
   σ'.length=τb.length/\∀ (l:Nat) (s:Sl),τb[l]?=some s->cK X.K (hd H' λb=>own A B b\/b=D) H' (σ'[l]?).join [] s,⟨xs.length,rfl,Nat.zero_le _,ah hD _,⟨[],aL,Nat.le_refl _,.nil⟩,?_,λl s h=>?_⟩,?_⟩
 · rw [<- hτ]; unfold d9 bD; rw [List.length_append,List.length_append,List.length_map,List.length_map]; rfl
 · have hv:aq (hd H (own A B)) (hd (upd H1 D (.lst [])) λb=>own A B b\/b=D):=λb o z=>by
     obtain ⟨z1,z2⟩:=aB.mp z
     have z2:=e1 _ _ z2
     have ne:b ≠ D:=λz=>by rw [z,hD] at z2; cases z2
     exact aB.mpr ⟨λy=>y.elim z1 ne,by rw [aD ne]; exact z2⟩
   cases s with
   | un=>rfl
   | d x=>
     rw [<- hτ] at h
     have hlt:l < (bCp X.N scope).length:=by
       rcases Nat.lt_or_ge l (bCp X.N scope).length with h' | h'
       · exact h'
       · exfalso
         rw [List.getElem?_append_right (by unfold bD; rw [List.length_map]; exact h')] at h
         cases e:l - (bD τ (bCp X.N scope)).length with
         | zero=>rw [e] at h; cases h
         | succ n=>rw [e] at h; cases h
     rw [List.getElem?_append_left (by unfold bD; rw [List.length_map]; exact hlt)] at h
     rw [List.getElem?_append_left (by unfold d9; rw [List.length_map]; exact hlt)]
     unfold bD at h
     unfold d9
     rw [List.getElem?_map] at h ⊢
     cases e:(bCp X.N scope)[l]? with
     | none=>rw [e] at h; cases h
     | some o=>
       rw [e] at h
       cases o with
       | none=>cases h
       | some i=>
         simp only [Option.map_some,Option.some.injEq] at h
         split at h
         · rename_i x' hx'
           cases h
           obtain ⟨_,u,eu,d⟩:=S.sl i _ hx'
           exact ⟨rfl,u,by simpa using eu,d.mono hv⟩
         · cases h
   | o xs'=>
     exfalso
     rw [<- hτ] at h
     have:=List.mem_of_getElem? h
     rcases List.mem_append.mp this with z | z
     · unfold bD at z
       obtain ⟨o,_,ho⟩:=List.mem_map.mp z
       split at ho
       · split at ho <;> cases ho
       · cases ho
     · cases List.mem_singleton.mp z
   | n t'=>
     exfalso
     rw [<- hτ] at h
     have:=List.mem_of_getElem? h
     rcases List.mem_append.mp this with z | z
     · unfold bD at z
       obtain ⟨o,_,ho⟩:=List.mem_map.mp z
       split at ho
       · split at ho <;> cases ho
       · cases ho
     · cases List.mem_singleton.mp z
   | x E'=>
     exfalso
     rw [<- hτ] at h
     have:=List.mem_of_getElem? h
     rcases List.mem_append.mp this with z | z
     · unfold bD at z
       obtain ⟨o,_,ho⟩:=List.mem_map.mp z
       split at ho
       · split at ho <;> cases ho
       · cases ho
     · cases List.mem_singleton.mp z
 rintro i m σ' H' ⟨rfl,hi,e2,⟨vs,hv1,hv2,hv3⟩,hlen,hsl⟩
 obtain ⟨y1,y2⟩:=yl H' (aI.trans e2)
 by_cases hlt:i < xs.length
 · obtain ⟨g,y⟩:=y2 i hlt
   refine .inr ⟨g,λx H2 hy=>?_⟩
   obtain ⟨e3,dx⟩:=y x H2 hy
   have S2:Sta X.K (λb=>own A B b\/b=D) H' τb (λ_=>[]) σ' H':=slots e2 ⟨_,hv1⟩ hlen hsl
   have o0:∀ b,own (λb=>own A B b\/b=D) (λ_=>([]:List Addr)) b->own A B b\/b=D:=λb z=>z.elim id λ⟨_,z⟩=>(nomatch z)
   have dx':=dx _ S2.dm (λb o z=>by
     obtain ⟨z1,z2⟩:=aB.mp z
     exact aB.mpr ⟨λy=>(o0 b y).elim z1 λy=>(by rw [y,hD] at z2; cases z2),e2 _ _ z2⟩)
   refine ⟨i,hlt,_,_,_,S2.mono e3,dx',λσ2 B2 S3=>?_⟩
   have hB2:∀ j b,b ∈ B2 j->b ≠ D:=λj b hb z=>by
     have:=S3.fr j b hb
     rw [z,hv1] at this
     cases this
   have back:∀ {H5:Hp},aq H2 H5->σ2.length=τb.length/\∀ (l:Nat) (s:Sl),τb[l]?=some s->cK X.K (hd H5 λb=>own A B b\/b=D) H5 (σ2[l]?).join [] s:=λ{H5} e5=>by
     refine ⟨S3.len.trans (hT i).1,λl s h=>?_⟩
     cases s with
     | un=>rfl
     | d x=>
       obtain ⟨_,u,eu,d⟩:=S3.sl l _ ((hT i).2 l x h)
       exact ⟨rfl,u,eu,d.mono (ay e5 λ_ z=>.inl z)⟩
     | o xs'=>exact absurd (hsl l _ h) (λ⟨_,_,z,_⟩=>(nomatch z))
     | n t'=>exact absurd rfl (noN l t' h)
     | x E'=>exact absurd (hsl l _ h) (λ⟨_,_,z,_⟩=>(nomatch z))
   refine ⟨i,hlt,_,_,_,S3,λH4 e4=>?_⟩
   cases ht:t i with
   | false=>
     rw [if_neg Bool.false_ne_true]
     obtain ⟨b1,b2⟩:=back e4
     refine ⟨xs.length - (i + 1),by omega,rfl,hlt,e2.trans (e3.trans e4),⟨vs,e4 _ _ (e3 _ _ hv1),by omega,?_⟩,b1,b2⟩
     rw [List.range_succ,List.filter_append,List.map_append,List.filter_cons,ht]
     simpa using hv3.mono (ay (e3.trans e4) λ_ z=>z)
   | true=>
     rw [if_pos rfl]
     refine ⟨i,hlt,ht,aQ (S3.mono e4) λv H5 e5 d5=>?_⟩
     have e6:=e3.trans (e4.trans e5)
     have hv5:=e6 _ _ hv1
     refine ⟨vs,xs.length - (i + 1),hv5,Nat.lt_trans (Nat.lt_of_le_of_lt hv2 (Nat.lt_trans hlt hl)) (by decide),by omega,rfl,hlt,?_,?_⟩
     · intro b o z
       have ne:b ≠ D:=λy=>by rw [y,hD] at z; cases z
       rw [aD ne]
       exact e6 _ _ (e2 _ _ z)
     have sm:aq (hd H5 λb=>own A B b\/b=D) (hd (upd H5 D (.lst (vs++[v]))) λb=>own A B b\/b=D):=λb o z=>by
       obtain ⟨z1,z2⟩:=aB.mp z
       exact aB.mpr ⟨z1,by rw [aD λy=>z1 (.inr y)]; exact z2⟩
     obtain ⟨b1,b2⟩:=back (e4.trans e5)
     refine ⟨⟨vs++[v],aL,by rw [List.length_append]; exact Nat.succ_le_succ hv2,?_⟩,b1,λl s h=>?_⟩
     · rw [List.range_succ,List.filter_append,List.map_append,List.filter_cons,ht,if_pos rfl]
       refine ar.append (hv3.mono ((ay e6 λ_ z=>z).trans sm)) (.cons (d5.mono ((ay (aq.refl _) λ_ z=>.inl z).trans sm)) .nil)
     · cases s with
       | un=>rfl
       | d x=>obtain ⟨z1,u,eu,d⟩:=b2 l _ h; exact ⟨z1,u,eu,d.mono sm⟩
       | o xs'=>exact absurd (hsl l _ h) (λ⟨_,_,z,_⟩=>(nomatch z))
       | n t'=>exact absurd rfl (noN l t' h)
       | x E'=>exact absurd (hsl l _ h) (λ⟨_,_,z,_⟩=>(nomatch z))
 · have e:i=xs.length:=by omega
   subst e
   refine .inl ⟨y1 _ (Nat.le_refl _),kk _ _ [D] (e1.trans e2) (λb hb=>?_) ⟨D,vs,rfl,rfl,hv1,hv3.mono (ay (aq.refl _) λb z=>z.elim (λz=>.inl (jH z)) λz=>.inr (List.mem_singleton.mp z))⟩⟩
   obtain rfl:=List.mem_singleton.mp hb
   exact ⟨e1.free hD,_,hv1⟩
theorem cmp (j:Nat) {n:Str} {g f:Nat->D} (B:Bk X k) (hi:PI X (.Name n p) it (dI X.K τ xs)) (hx:∀ i (h:i < xs.length),xs[i]=g i) (hl:xs.length < 1000000)
   (he:∀ i,i < xs.length->∀ s H fp,PE (cpX X s H scope fp) elt (dE X.K true ((bD τ (bCp X.N scope)++[Sl.un]).set j (.d (g i))) (.d (f i))))
   (hc:bOk X.env.scope scope=true:=by kernel_rfl) (hu:(bD τ (bCp X.N scope)++[Sl.un])[j]?=some .un:=by rfl) (hN:(bNm scope++[("#" : Str)])[j]?=some n:=by rfl) (hv:∀ s H fp,Loc (cpX X s H scope fp).env.scope n:=by intro _ _ _; first | exact .inl rfl | exact .inr rfl)
   (hf:∀ s H fp,(cpX X s H scope fp).fn n=true\/(cpX X s H scope fp).env.scope.names.lookup n=some .local:=by intro _ _ _; first | exact .inr rfl | exact .inl rfl) (hs:∀ x,foldedSetIterable it X.env x=pure x:=by intro _; rfl) :
   Cmp X elt (.Name n p) it [] scope τ ((List.range xs.length).map f):=by
 have h:=kL (T:=λi=>(bD τ (bCp X.N scope)++[Sl.un]).set j (.d (g i))) (t:=λ_=>true) (f:=f) (elt:=elt) (ifs:=[]) hc hi (λi=>⟨List.length_set,λl x h=>?_⟩) (λi h s H fp=>?_) (λi h s H fp=>?_) (λi h _ s H fp=>he i h s H fp) hl hs
 · rwa [List.filter_eq_self.mpr λ_ _=>rfl] at h
 · rw [List.getElem?_set_ne (λz=>by rw [<- z,hu] at h; cases h)]
   exact h
 · rw [hx i h]
   exact tw j (fX hc).2 hN (hv s H fp) (hf s H fp)
 · exact λpins s' σ H' Q I ⟨A,H₀,B,S,q⟩=>mj pins s' σ H' Q I (q H' (aq.refl _))
end
section
variable {P:Program} {w:World} {K:PySem.W.Frag} {mg:Str->Option Value} {base:Heap}
noncomputable def uc (N:List Str) (ds:List D):List Sl:=ds.map .d++List.replicate (N.length - ds.length) .un
noncomputable abbrev Xc (P:Program) (w:World) (K:PySem.W.Frag) (mg:Str->Option Value) (base:Heap) (N:List Str) (qual:Str) (st:Stmt) (f:Addr) (cdv:Value) (A:Around) (outer:List Env) (s:Shared) (H:Hp) (E:XK):Cx:=(lE CX0 P w K mg base N qual (ag st) f cdv A outer s H E).nox
theorem fnD {x qual:Str} {st:Stmt} {f:Addr} {fd:FuncData} {N ps:List Str} {k:Nat} {Φ:List D->Sl->Prop} (F:Fun K x qual st f fd) (S:au N ps (ag st)) (hb:∀ x ∈ ao,mg x=none) (len:∀ ds r,Φ ds r->ds.length=ps.length)
   (body:∀ ds r,Φ ds r->∀ cdv A outer s H E,Bk (Xc P w K mg base N qual st f cdv A outer s H E) k->PSs (Xc P w K mg base N qual st f cdv A outer s H E) (bh st) (dS K (uc N ds) { nx:=λ_=>r=.d .non,rt:=λr'=>r'=r })) :
   aN P w K mg base CX0 (k + 1) f fd ps (spD K Φ):=by
 refine F.ok S (λvs H Q E ⟨A,ds,r,_,d,h,_⟩=>d.length.trans (len ds r h)) λcdv A outer s H vs Q E hr ⟨A',ds,r,ha,d,h,q⟩=>⟨_,body ds r h cdv A outer s H E ⟨hr,rfl,hb,PassesOwn.never⟩,A',H,λ_=>[],⟨aq.refl _,?_,λi s hi=>?_,λ_ _ z=>(nomatch z),λ_ _ _ z=>(nomatch z),ha,λ_ _ z=>(nomatch z)⟩,λτ B σ H' h S=>?_,λ_ _ _ _ h=>h.elim,λ_ _ _ _ h=>h.elim,λv H' bs s h e hf z=>?_,λ_ _=>trivial⟩
 · unfold L2.start uc
   simp [d.length]
 · have hl:=d.length
   unfold uc at hi
   unfold L2.start
   by_cases hlt:i < ds.length
   · rw [List.getElem?_append_left (by simpa using hlt),List.getElem?_map,List.getElem?_eq_getElem hlt] at hi
     cases hi
     obtain ⟨v,e,dv⟩:=d.get (List.getElem?_eq_getElem hlt)
     refine ⟨rfl,v,?_,dv.mono (ay (aq.refl _) λ_ z=>z.elim id λ⟨_,z⟩=>(nomatch z))⟩
     rw [List.getElem?_append_left (by simpa [hl] using hlt),List.getElem?_map,e]
     rfl
   · rw [List.getElem?_append_right (by simpa using hlt),List.getElem?_replicate] at hi
     split at hi
     · cases hi; rfl
     · cases hi
 · obtain rfl:=(h:r=_)
   exact q .non H' [] S.same cu (eM .non)
 · obtain rfl:=(h:s=r)
   exact q v H' bs e hf z
theorem rn {K:PySem.W.Frag} {Φ:List D->Sl->Prop} (hΦ:∀ ns:List Int,ns.length<=63->Φ [.lst (ns.map .int)] (.d (.bl true))) (H:Hp) (a:Addr) (ns:List Int) (hl:ns.length<=63) (hS:SqL K H a (ns.map V.int)):spD K Φ [.ref a] H (λv _=>v=.bl true) λ_ _ _=>False:=by
 have hh:hd H (λ_=>False)=H:=by funext b; unfold hd; rw [if_neg id]
 refine ⟨λ_=>False,_,_,λ_ z=>z.elim,.cons (.lst (vs:=ns.map V.int) (by rw [hh]; exact hS) ?_) .nil,hΦ ns hl,λv H' bs _ _ h=>?_⟩
 · clear hl hS
   induction ns with
   | nil=>exact .nil
   | cons n ns ih=>exact .cons .int ih
 · obtain ⟨_,u,e,d⟩:=h
   cases e
   cases d
   rfl
end
end Hy
namespace Hy
open PySem PySem.Spec PyProof.Rows L2
open Ev (D Den ar aF aE ah aM aG)
section
variable {X:Cx} {C:Bool} {τ:List Sl} {x y z:D} {a b e:Expr} {es:List Expr} {pos p:Pos} {k:Nat} {s:Sl} {ds:List D} {i j:Int}
theorem ku {K:PySem.W.Frag} {H:Hp}:∀ {vs:List V} {ns:List Int},ar K H vs (ns.map .int)->vs=ns.map V.int
 | _,[],h=>by cases h; rfl
 | _,n :: ns,h=>by
   cases h with
   | cons d r=>cases d; rw [ku r]; rfl
theorem gv:∀ {ns:List Int} {us:List Value},Vals (ns.map V.int) us->∃ xs:List (Int × Tok),us=xs.map (λp=>Value.int p.1 p.2)/\xs.map (·.1)=ns
 | [],_,h=>by cases h; exact ⟨[],rfl,rfl⟩
 | n :: ns,_,h=>by
   cases h with
   | cons rv rs=>
     obtain ⟨xs,rfl,rfl⟩:=gv rs
     obtain ⟨t,rfl⟩:=(show ∃ t,_=Value.int n t from rv)
     exact ⟨(n,t) :: xs,rfl,rfl⟩
theorem om (hc:X.calm=true):cF X (.builtin "sum") (λxs H Q=>∃ (p:Addr) (ns:List Int),xs=[.ref p]/\SqL X.K H p (ns.map V.int)/\Q (.int ns.sum) H):=by
 intro pins s σ H xs us Q I r q
 obtain ⟨p,ns,rfl,h,q⟩:=q
 obtain ⟨u,rfl,ru⟩:∃ u,us=[u]/\RelV (.ref p) u:=by
   cases r with
   | cons r1 r=>cases r; exact ⟨_,rfl,r1⟩
 cases (show u=Value.ref _ from ru)
 obtain ⟨its,rv,pl,hz⟩:=I.list h
 obtain ⟨xs,rfl,hx⟩:=gv rv
 refine sum_intListG (xs:=xs.toArray) (I.ok.hd hc) (by have:=pl.isList; simpa [intItems] using this) λh' tk t' k=>?_
 refine ⟨.int ns.sum,H,I.kept k,⟨t',?_⟩,q⟩
 rw [List.size_toArray,preSum_eq,List.take_of_length_le (by simp),hx]
theorem so (hc:X.calm=true) (ns:List Int) {xs:List D} (hx:xs=ns.map .int):fq X (.builtin "sum") [.lst xs] (.d (.int ns.sum)):=⟨_,om hc,λM vs H Q _ d q=>by
 subst hx
 cases d with
 | cons d r=>
   cases r
   cases d with
   | lst h r=>
     cases ku r
     exact ⟨_,_,rfl,aG aI h,q _ H [] (aq.refl _) cu (eM .int)⟩⟩
theorem qi:OpR X (binaryOp .Add) (λx y H Q=>∃ l b xs zs,x=.ref l/\y=.ref b/\SqL X.K H l xs/\SqL X.K H b zs/\xs.length + zs.length<=sizeLine/\∀ p,H p=none->Q (.ref p) (upd H p (.lst (xs++zs)))):=by
 intro pins s σ H x y v u Q I rx ry h
 obtain ⟨l,b,xs,zs,rfl,rfl,hH,hB,hz,q⟩:=h
 cases rx
 cases ry
 obtain ⟨its,r,pl,_⟩:=I.list hH
 obtain ⟨its2,r2,pl2,_⟩:=I.list hB
 have hl:=r.length
 have hl2:=r2.length
 obtain ⟨⟨cls,dd,data,sl⟩,ho,hc,n,hd⟩:=pl.isList
 obtain ⟨⟨cls2,dd2,data2,sl2⟩,ho2,hc2,n2,hd2⟩:=pl2.isList
 simp only at hc hd hc2 hd2
 subst hc hd hc2 hd2
 have e:its.toArray++its2.toArray=(its++its2).toArray:=by simp
 refine concat_meets ⟨_,ho,rfl⟩ ⟨_,ho2,rfl⟩ noFill_list_add seq_list_add PySem.F.slot_list_add PySem.F.entry_list_add (PySem.F.args_list_add_2 _ _) (list_addW l b its.toArray its2.toArray n n2 dd dd2 sl sl2 (by rw [List.size_toArray,List.size_toArray]; omega)) ⟨ho,ho2,?_⟩
 rw [e]
 exact ⟨.ref _,_,I.wk (t':=s.toks) (r.append r2) (by rw [List.length_append]; omega),rfl,q _ I.fresh⟩
theorem kJ {xs ys:List D} (ha:PE X a (dE X.K C τ (.d (.lst xs)))) (hb:PE X b (dE X.K C τ (.d (.lst ys)))) (hl:xs.length + ys.length < 1000000):PE X (.BinOp a .Add b pos) (dE X.K C τ (.o (xs++ys))):=peW (rG qi ha hb) λσ H Q ⟨A,H₀,B,S,k⟩=>
 aQ S λv H1 e1 d1=>aQ (S.mono e1) λw H2 e2 d2=>by
   cases d1 with
   | lst h1 r1=>cases d2 with
     | lst h2 r2=>
       refine ⟨_,_,_,_,rfl,rfl,aG (aI.trans e2) h1,aG aI h2,by rw [r1.length,r2.length]; exact Nat.le_of_lt (Nat.lt_trans hl (by decide)),λp hp=>?_⟩
       obtain ⟨z1,z2,z3⟩:=ll (K:=X.K) hp ((r1.mono (ay e2 λ_ z=>z)).append r2)
       exact k _ _ [p] (e1.trans (e2.trans z1)) (λb hb=>⟨(e1.trans e2).free (z2 b hb).1,(z2 b hb).2⟩) z3
theorem mkL (h:i.natAbs < 2 ^ 60):aF i j:=.inl (by
 rcases Nat.eq_zero_or_pos i.natAbs with z | z
 · rw [z]; decide
 · exact Nat.lt_trans ((Nat.log2_lt (by omega)).mpr h) (by decide))
theorem mkR (h:j.natAbs < 2 ^ 60):aF i j:=.inr (.inl (by
 rcases Nat.eq_zero_or_pos j.natAbs with z | z
 · rw [z]; decide
 · exact Nat.lt_trans ((Nat.log2_lt (by omega)).mpr h) (by decide)))
theorem mkD (h0:j ≠ 0) (h:j.natAbs < 2 ^ 62):aE j:=⟨h0,Nat.lt_trans ((Nat.log2_lt (by omega)).mpr h) (by decide)⟩
end
theorem aV {α:Type} {xs:List α} {i:Nat} {x:α} (h:xs[i]?=some x):atI xs (i:Int)=some x:=by
 unfold atI ixN
 have:=(List.getElem?_eq_some_iff.mp h).1
 rw [if_pos (by omega),if_pos (by omega)]
 simpa using h
theorem lP {ns:List Int} {i:Int} (h0:0<=i) (h:i.toNat < ns.length):atI (ns.map D.int) i=some (.int (ns.getD i.toNat 0)):=by
 obtain ⟨n,rfl⟩:=Int.eq_ofNat_of_zero_le h0
 exact aV (by
   have h:n < ns.length:=h
   simp [h])
theorem sN {xs:List D} (n:Nat):cutD xs none (some (n:Int))=xs.take n:=by
 unfold cutD
 rw [HT.dP,HT.g8,List.drop_zero,Nat.sub_zero]
 rcases Nat.le_total n xs.length with h | h
 · rw [Nat.min_eq_left h]
 · rw [Nat.min_eq_right h,List.take_of_length_le (Nat.le_refl _),List.take_of_length_le h]
theorem lU {xs:List D} (m n:Nat):cutD xs (some (m:Int)) (some (n:Int))=(xs.take n).drop m:=by
 unfold cutD
 rw [HT.dP,HT.dP]
 rw [<- List.drop_take]
 rcases Nat.le_total n xs.length with h | h
 · rw [Nat.min_eq_left h]
   rcases Nat.le_total m xs.length with h' | h'
   · rw [Nat.min_eq_left h']
   · rw [Nat.min_eq_right h',List.drop_eq_nil_of_le (by simp; omega),List.drop_eq_nil_of_le (by simp; omega)]
 · rw [Nat.min_eq_right h,List.take_of_length_le (Nat.le_refl _),List.take_of_length_le h]
   rcases Nat.le_total m xs.length with h' | h'
   · rw [Nat.min_eq_left h']
   · rw [Nat.min_eq_right h',List.drop_eq_nil_of_le (Nat.le_refl _),List.drop_eq_nil_of_le h']
theorem getD_none {α:Type} {xs:List α} {i:Nat} {d:α} (h:xs.length<=i):xs.getD i d=d:=by simp [List.getD,h]
theorem ex1 {α:Type} {p:α->Prop} {a:α} (h:p a):∃ a,p a:=⟨a,h⟩
theorem ex3 {α:Type} {p:α->α->α->Prop} {a b c:α} (h:p a b c):∃ a b c,p a b c:=⟨a,b,c,h⟩
end Hy
namespace Hy
open PySem PySem.Spec PyProof.Rows L2
open Ev (D Den ar)
noncomputable def Dfn (K:PySem.W.Frag) (x:Str) (st:Stmt) (f:Addr):Prop:=PySem.W.nsIn K mainGlobals x=some (some (.ref f))/\(∃ oc od kV dc pm an cd ct sl,K.lookup f=some ⟨oc,od,.func (PySem.W.fnOf x x (bH st) (bh st) (ag st) .none kV dc pm an cd ct),sl⟩/\PySem.W.codeIn K cd x=true)/\PySem.W.keepIn K (.ref f)=true
noncomputable def BdA (x:Str) (st:Stmt) (ps:List Str):Prop:=∀ (kV dc pm:Value) (an:Option Addr) (cd ct:Value) (us:List Value),us.length=ps.length->bindArgs (PySem.W.fnOf x x (bH st) (bh st) (ag st) .none kV dc pm an cd ct) ⟨us,[]⟩=pure (ps.zip us)
noncomputable def nsL (K:PySem.W.Frag):List Str->Prop
 | []=>True
 | x :: r=>PySem.W.nsIn K mainGlobals x=some none/\nsL K r
section
variable {P:Program} {w:World} {K:PySem.W.Frag} {h:Heap} {mg:Str->Option Value} {base:Heap} {x:Str} {st:Stmt} {f:Addr} {ps:List Str} {k:Nat} {Φ:List D->Sl->Prop}
theorem Dfn.of {oc:Value} {od an:Option Addr} {kV dc pm cd ct:Value} {sl:Array (Option Value)} (a:PySem.W.nsIn K mainGlobals x=some (some (.ref f))) (l:K.lookup f=some ⟨oc,od,.func (PySem.W.fnOf x x (bH st) (bh st) (ag st) .none kV dc pm an cd ct),sl⟩) (c:PySem.W.codeIn K cd x=true) (k:PySem.W.keepIn K (.ref f)=true):Dfn K x st f:=⟨a,⟨_,_,_,_,_,_,_,_,_,l,c⟩,k⟩
theorem nsL.none (X:K.In h) (G:h.Ns mainGlobals mg):∀ {l:List Str},nsL K l->∀ x ∈ l,mg x=none
 | _ :: _,z,x,m=>by
   rcases List.mem_cons.mp m with rfl | m
   · exact PySem.W.mg_none_of X G z.1
   · exact nsL.none X G z.2 x m
theorem Dfn.fn (d:Dfn K x st f) (X:K.In h) (G:h.Ns mainGlobals mg) (b:BdA x st ps):∃ fd,Fun K x x st f fd/\mg x=some (.ref f)/\PySem.W.keepIn K (.ref f)=true/\Binds K fd ps []:=by
 obtain ⟨a,⟨oc,od,kV,dc,pm,an,cd,ct,sl,l,c'⟩,q⟩:=d
 have F:=lz l c' q
 exact ⟨_,F,PySem.W.mg_of X G a,q,F.binds (b kV dc pm an cd ct)⟩
theorem Dfn.cal (d:Dfn K x st f) (X:K.In h) (G:h.Ns mainGlobals mg) (b:BdA x st ps) (o:∀ fd,Fun K x x st f fd->aN P w K mg base CX0 k f fd ps (spD K Φ)):Cal P w K mg base k x Φ:=by
 obtain ⟨fd,F,h1,h2,h3⟩:=d.fn X G b
 exact ⟨f,fd,ps,o fd F,h1,h2,h3⟩
end
theorem bd1 {Q:List Value->Prop} (h:∀ a,Q [a]):∀ us:List Value,us.length=1->Q us:=λus e=>match us,e with | [a],_=>h a
theorem bd2 {Q:List Value->Prop} (h:∀ a b,Q [a,b]):∀ us:List Value,us.length=2->Q us:=λus e=>match us,e with | [a,b],_=>h a b
theorem bd3 {Q:List Value->Prop} (h:∀ a b c,Q [a,b,c]):∀ us:List Value,us.length=3->Q us:=λus e=>match us,e with | [a,b,c],_=>h a b c
end Hy
namespace Hy
open PySem PySem.Spec PyProof.Rows L2
open Ev (D Den ar ah aM aG)
section
variable {K:PySem.W.Frag} {G H:Hp}
end
section
variable {K:PySem.W.Frag} {G H:Hp}
end
section
variable {X:Cx} {C:Bool} {τ:List Sl} {x y z:D} {a b e o ix:Expr} {es:List Expr} {pos p q:Pos} {k:Nat} {s:Sl} {N:Po} {rest:List Stmt} {i:Nat} {t c:Nd} {pt:List Nat} {xs:List Nd} {j:Int} {m:Nat}
end
end Hy
namespace Ev
open PySem PySem.Spec PyProof.Rows L2
mutual
noncomputable def cln:D->Bool
 | .str x=>PyData.strOk x
 | .tup xs=>nL xs
 | .lst xs=>nL xs
 | .box _=>false
 | .non | .bl _ | .int _=>true
noncomputable def nL:List D->Bool
 | []=>true
 | x :: xs=>cln x && nL xs
end
mutual
noncomputable def dep:D->Nat
 | .tup xs=>nZ xs + 1
 | .lst xs=>nZ xs + 1
 | .non | .bl _ | .int _ | .str _ | .box _=>0
noncomputable def nZ:List D->Nat
 | []=>0
 | x :: xs=>max (dep x) (nZ xs)
end
noncomputable def lh (x:D):Prop:=cln x=true/\dep x<=64
noncomputable instance (x:D):Decidable (lh x):=inferInstanceAs (Decidable (_/\_))
section
variable {X:Cx} {pins:List (Addr × Obj)} {σ:L2.St} {H G:Hp} {s:Shared}
end
end Ev
namespace Hy
open PySem PySem.Spec PyProof.Rows L2
open Ev (D Den ar ah aM aG Itz um k4 lh)
section
variable {X:Cx} {C:Bool} {τ:List Sl} {x y z:D} {a b e c tg it elt:Expr} {es ifs:List Expr} {pos p q:Pos} {k:Nat} {s:Sl} {N:Po} {rest body:List Stmt} {ds xs ys:List D} {i j:Int} {scope:Scope}
theorem ml (M:Nat->Bool->List Sl->Prop) (B:Bk X k) (h0:∃ n t,M n t τ) (hc:∀ n t τ',M n t τ'->PT X c (dT X.K τ' t)) (hb:∀ n τ',M n true τ'->PSs X body (dS X.K τ' { N with nx:=λτ2=>∃ m t,m < n/\M m t τ2,ct:=λτ2=>∃ m t,m < n/\M m t τ2,bk:=λ_=>False }))
   (hr:∀ n τ',M n false τ'->PSs X rest (dS X.K τ' N)):PSs X (.While c body [] pos :: rest) (dS X.K τ N):=by
 have hc':PT X c λσ H Q=>∃ n t τ',M n t τ'/\dT X.K τ' t σ H Q:=λpins s σ H Q I ⟨n,t,τ',m,q⟩=>hc n t τ' m pins s σ H Q I q
 have hb':PSs X body λD σ H=>∃ n τ',M n true τ'/\dS X.K τ' { N with nx:=λτ2=>∃ m t,m < n/\M m t τ2,ct:=λτ2=>∃ m t,m < n/\M m t τ2,bk:=λ_=>False } D σ H:=λpins s σ H D I ⟨n,τ',m,q⟩=>hb n τ' m pins s σ H D I q
 refine bz (M:=λτ'=>∃ n,M n false τ') (psW (oV B.po hc' hb') λD σ H ⟨A,H₀,B,S,Me⟩=>⟨λm σ' H'=>∃ t τ' B',M m t τ'/\Sta X.K A H₀ τ' B' σ' H',?_,?_⟩) λτ' h=>let ⟨n,h⟩:=h; hr n τ' h
 · obtain ⟨n,t,h0⟩:=h0
   exact ⟨n,t,τ,B,h0,S⟩
 rintro m σ' H' ⟨t,τ',B',hM,S'⟩
 refine ⟨m,t,τ',hM,A,H₀,B',S',λH1 e1=>?_⟩
 cases t with
 | false=>exact nk (Me.nx τ' B' σ' H1 ⟨m,hM⟩ (S'.mono e1))
 | true=>
   refine nR ⟨λσ2 H2=>∃ τ2 B2,(∃ n t,n < m/\M n t τ2)/\Sta X.K A H₀ τ2 B2 σ2 H2,λσ2 H2 ⟨τ2,B2,⟨n,t,l,q⟩,S2⟩=>⟨n,l,t,τ2,B2,q,S2⟩,m,τ',hM,A,H₀,B',S'.mono e1,?_⟩
   exact ⟨λτ2 B2 σ2 H2 m S2=>⟨τ2,B2,m,S2⟩,λ_ _ _ _ z=>z.elim,λτ2 B2 σ2 H2 m S2=>⟨τ2,B2,m,S2⟩,Me.rt,Me.xc⟩
noncomputable def fF (xs ys:List D):List D:=(xs.zip ys).map λp=>.tup [p.1,p.2]
theorem bX:(fF xs ys).length=min xs.length ys.length:=by simp [fF]
theorem ql (i:Nat) (h:i < (fF xs ys).length):(fF xs ys)[i]=.tup [xs.getD i .non,ys.getD i .non]:=by
 rw [bX] at h
 simp [fF,show i < xs.length by omega,show i < ys.length by omega]
theorem sx {K:PySem.W.Frag} {G:Hp} {a b:Addr} {vs ws:List V} (h:SqL K G a vs) (r:ar K G vs xs) (h':SqL K G b ws) (r':ar K G ws ys):Yl K (Itz K a b) (fF xs ys) G:=by
 intro H sg
 have hl:=r.length
 have hl':=r'.length
 refine ⟨λi hi=>⟨vs,ws,aG sg h,aG sg h',by rw [bX] at hi; omega⟩,λi hi=>?_⟩
 have hi':=hi
 rw [bX] at hi'
 obtain ⟨v,hv,dv⟩:=r.get (List.getElem?_eq_getElem (show i < xs.length by omega))
 obtain ⟨w,hw,dw⟩:=r'.get (List.getElem?_eq_getElem (show i < ys.length by omega))
 refine ⟨⟨vs,ws,v,w,aG sg h,aG sg h',hv,hw⟩,λy H' ⟨p,x1,x2,hp,e0,e1,e2,e3⟩=>?_⟩
 subst e0 e1
 have ex:x1=v:=by have:=e2 vs (aG sg h); rw [hv] at this; exact (Option.some.inj this).symm
 have ey:x2=w:=by have:=e3 ws (aG sg h'); rw [hw] at this; exact (Option.some.inj this).symm
 subst ex ey
 refine ⟨ah hp _,λM hM sv=>?_⟩
 rw [ql,show xs.getD i .non=xs[i] by simp [show i < xs.length by omega],show ys.getD i .non=ys[i] by simp [show i < ys.length by omega]]
 have up:=sv.trans (ay (ah hp (.tup [x1,x2])) λ_ z=>z)
 exact .tup (SqT.of (hJ hM hp)) (.cons (dv.mono up) (.cons (dw.mono up) .nil))
theorem oP {ts:List Expr} {m:Nat} {tp:Pos} (B:Bk X k) (h:PE X a (dE X.K true τ (.d (.lst xs)))) (h':PE X b (dE X.K true τ (.d (.lst ys)))) (hg:Gl X "zip":=by rfl) (hs:starEach [a,b] X.env=(false,eval a X.env) :: starEach [b] X.env:=by rfl) (hs2:starEach [b] X.env=[(false,eval b X.env)]:=by rfl) :
   PI X (.Tuple ts m tp) (.Call (.Name "zip" p) [a,b] [] pos) (dI X.K τ (fF xs ys)):=
 piW (k4 B.calm hg (B.blt _ (by decide)) (ab h (ab h' af hs2) hs) hs hs2) λσ H R ⟨A,H₀,B,S,k⟩=>fb S λvs H1 e1 d1=>by
   cases d1 with
   | cons d r=>
     cases r with
     | cons d' r=>
       cases r
       cases d with
       | lst h r=>cases d' with
         | lst h' r'=>exact ⟨_,_,rfl,⟨_,aG aI h⟩,⟨_,aG aI h'⟩,k _ H1 e1 (sx h r h' r')⟩
variable {u v:Str}
theorem fM:∀ {bs:List Bool} {us:List Value},Vals (bs.map V.bl) us->us=bs.map Value.bool
 | [],_,h=>by cases h; rfl
 | b :: bs,_,h=>by
   cases h with
   | cons rv rs=>rw [fM rs,show _=Value.bool b from rv]; rfl
theorem oj (hc:X.calm=true):cF X (.builtin "all") (λxs H Q=>∃ (p:Addr) (bs:List Bool),xs=[.ref p]/\SqL X.K H p (bs.map V.bl)/\Q (.bl (bs.all id)) H):=by
 intro pins s σ H xs us Q I r q
 obtain ⟨p,bs,rfl,h,q⟩:=q
 obtain ⟨u,rfl,ru⟩:∃ u,us=[u]/\RelV (.ref p) u:=by
   cases r with
   | cons r1 r=>cases r; exact ⟨_,rfl,r1⟩
 cases (show u=Value.ref _ from ru)
 obtain ⟨its,rv,pl,hz⟩:=I.list h
 obtain rfl:=fM rv
 have lt:∀ a,s.heap.IsList a (bs.map Value.bool).toArray->a ≠ s.heap.objs.size:=λa ⟨o,z,_⟩=>Nat.ne_of_lt (Heap.lt_size z)
 refine call_all_walk (wpAny_pyIter_list pl.isList ⟨_,_,_,_,_,_,λi=>(bs.map Value.bool)[i]? == some (Value.bool true),rfl,Walks.list (A:=X.A.in1) (I.ok.hd hc) _ _ (lt _ pl.isList) (bs.map Value.bool).toArray,⟨⟨_,Heap.get?_push_size _ rfl,rfl,rfl⟩,?_⟩,λi v s' Q' E' hP hQ=>?_,λh' tk hk=>?_⟩)
 · obtain ⟨o,z1,z2⟩:=pl.isList
   exact ⟨o,Heap.get?_push_of_some _ z1,z2⟩
 · have hP':(bs.map Value.bool)[i]?=some v:=by simpa using hP
   obtain ⟨c,_,rfl⟩:=List.mem_map.mp (List.mem_of_getElem? hP')
   refine wpAny_truthy_bool ?_
   have hQ:Q' ((bs.map Value.bool)[i]? == some (Value.bool true)) s':=hQ
   rw [hP'] at hQ
   cases c
   · exact hQ
   · exact hQ
 · refine ⟨.bl (bs.all id),H,I.kept (t':=tk) λb' o z=>?_,?_,q⟩
   · refine hk b' o (λhm=>?_) (Heap.get?_push_of_some _ z)
     have:b'=s.heap.objs.size:=by simpa using hm
     exact absurd (Heap.lt_size z) (by rw [this]; exact Nat.lt_irrefl _)
   · have e:∀ bs:List Bool,bs.all id=(List.range (bs.map Value.bool).toArray.size).all λi=>(bs.map Value.bool)[i]? == some (Value.bool true):=λbs=>by
       rw [List.size_toArray,List.length_map]
       induction bs with
       | nil=>rfl
       | cons b bs ih=>
         rw [List.all_cons,ih,List.length_cons,List.range_succ_eq_map,List.all_cons,List.all_map]
         congr 1
         cases b <;> rfl
     rw [e]; rfl
theorem mZ {K:PySem.W.Frag} {H:Hp}:∀ {vs:List V} {bs:List Bool},ar K H vs (bs.map .bl)->vs=bs.map V.bl
 | _,[],h=>by cases h; rfl
 | _,_ :: _,h=>by
   cases h with
   | cons d r=>cases d; rw [mZ r]; rfl
theorem mz (hc:X.calm=true) (bs:List Bool) (hx:xs=bs.map .bl):fq X (.builtin "all") [.lst xs] (.d (.bl (bs.all id))):=⟨_,oj hc,λM vs H Q _ d q=>by
 subst hx
 cases d with
 | cons d r=>
   cases r
   cases d with
   | lst h r=>
     cases mZ r
     exact ⟨_,_,rfl,aG aI h,q _ H [] (aq.refl _) cu (eM .bl)⟩⟩
end
end Hy
namespace Hy
open PySem PySem.Spec PyProof.Rows L2
open Ev (D Den ar ah aM aG aC d9 cC PTs bU cW)
section
variable {X:Cx} {C:Bool} {τ:List Sl} {x y z:D} {a b e c tg it elt o:Expr} {es ifs:List Expr} {pos p q:Pos} {k:Nat} {s:Sl} {N:Po} {rest body:List Stmt} {ds xs ys:List D} {i j:Int} {scope:Scope}
theorem Sta.hide {K:PySem.W.Frag} {A:Addr->Prop} {H₀ H H1:Hp} {B:Nat->List Addr} {σ:L2.St} {b1:List Addr} (S:Sta K A H₀ τ B σ H) (e:aq H H1) (f:Fr H H1 b1):Sta K (λb=>A b\/b ∈ b1) (hd H1 λb=>∃ i,b ∈ B i) τ B σ H1 where
 same:=aI
 len:=S.len
 sl:=λi s h=>(S.sl i s h).mono (λb o z=>by
   obtain ⟨z1,z2⟩:=aB.mp z
   refine aB.mpr ⟨λw=>?_,e _ _ z2⟩
   rcases w with (w | w) | w
   · exact z1 (.inl w)
   · rw [(f b w).1] at z2; cases z2
   · exact z1 (.inr w)) e
 fr:=λi b hb=>by
   cases q:hd H1 (λb=>∃ i,b ∈ B i) b with
   | none=>rfl
   | some o=>exact absurd ⟨i,hb⟩ (aB.mp q).1
 uq:=S.uq
 ad:=λb hb=>by
   rcases hb with z | z
   · obtain ⟨o,q⟩:=S.ad b z
     exact ⟨o,aB.mpr ⟨λ⟨i,w⟩=>(by rw [S.fr i b w] at q; cases q),e _ _ (S.same _ _ q)⟩⟩
   · obtain ⟨w1,o,w2⟩:=f b z
     exact ⟨o,aB.mpr ⟨λ⟨i,w⟩=>(by obtain ⟨o',q⟩:=S.bd i b w; rw [w1] at q; cases q),w2⟩⟩
 bd:=λi b hb=>let ⟨o,q⟩:=S.bd i b hb; ⟨o,e _ _ q⟩
theorem qP {A:Addr->Prop} {B:Nat->List Addr} {b1:List Addr} {b:Addr} (h:vw C A B b\/b ∈ b1):vw C (λb=>A b\/b ∈ b1) B b:=by
 cases C with
 | true=>
   rcases h with (h | h) | h
   · exact .inl (.inl h)
   · exact .inr h
   · exact .inl (.inr h)
 | false=>exact h
end
section
variable {X:Cx} {C:Bool} {τ τ':List Sl} {x y z:D} {a b e c tg it elt o ix:Expr} {es ifs:List Expr} {pos p q:Pos} {k:Nat} {s:Sl} {N:Po} {rest body:List Stmt} {ds xs ys:List D} {i:Nat} {j:Int} {scope:Scope}
noncomputable def dGs (K:PySem.W.Frag) (τ:List Sl) (xs:List D) (τ':List Sl):TGs:=λvs σ H Q=>∃ A H₀ B,Sta K A H₀ τ B σ H/\ar K (hd H (own A B)) vs xs/\∀ σ' B',Sta K A H₀ τ' B' σ' H->Q σ' H
theorem vo {es:List Expr} {t t':TGs} (h:PGs X es t) (f:∀ v σ H Q,t' v σ H Q->t v σ H Q):PGs X es t':=λpins s σ H v u Q I r q=>h pins s σ H v u Q I r (f v σ H Q q)
theorem tS:PGs X [] (dGs X.K τ [] τ):=vo mh λv σ H Q ⟨A,H₀,B,S,d,k⟩=>by
 cases d
 exact ⟨rfl,k σ B S⟩
theorem l5 (i:Nat) {n:Str} (hN:X.N.Nodup) (h:PGs X es (dGs X.K (τ.set i (.d x)) xs τ')) (hi:X.N[i]?=some n:=by rfl) (hx:Loc X.env.scope n:=by first | exact .inl rfl | exact .inr rfl) (hf:X.fn n=true\/X.env.scope.names.lookup n=some .local:=by first | exact .inl rfl | exact .inr rfl | assumption):PGs X (.Name n p :: es) (dGs X.K τ (x :: xs) τ'):=
 vo (gK (eU (i:=i) hN hi hx hf) h) λv σ H Q ⟨A,H₀,B,S,d,k⟩=>by
   cases d with
   | cons d r=>
     have sub:∀ b,own A (upB B i []) b->own A B b:=λb z=>z.elim .inl λ⟨j,z⟩=>(ba z).elim (λz=>nomatch z.2) λz=>.inr ⟨j,z.2⟩
     exact ⟨_,_,rfl,A,H₀,_,S.set (aq.refl _) (bs:=[]) (λ_ z=>nomatch z) (eM d),r.mono (ay (aq.refl _) sub),k⟩
theorem vN {m:Nat} (hc:X.calm=true) (h:PGs X es (dGs X.K τ xs τ')) (hl:(assignEach es X.env).length=xs.length:=by rfl) (hst:(assignEach es X.env).findIdx? (·.1)=none:=by rfl):PG X (.Tuple es m pos) (dG X.K τ (.tup xs) τ'):=
 pgW (pe (n:=xs.length) hc h hl hst) λv σ H Q ⟨A,H₀,B,S,d,k⟩=>by
   cases d with
   | tup h r=>exact ⟨_,_,rfl,aM aI h,r.length,A,H₀,B,S,r,k⟩
theorem tW {m:Nat} (he:PE X e (dE X.K true τ (.d x))) (hg:PG X (.Tuple es m p) (dG X.K τ x τ')) (hr:PSs X rest (dS X.K τ' N)) (hs:swapsWithSole [.Tuple es m p] e pos.line X.env=pure false:=by rfl) (hw:swappedStores [.Tuple es m p] e X.env=pure none:=by rfl)
   (h1:(assignEach [.Tuple es m p] X.env).map (·.2)=[assign (.Tuple es m p) X.env]:=by rfl):PSs X (.Assign [.Tuple es m p] e pos :: rest) (dS X.K τ N):=
 bz (M:=(·=τ')) (psW (oX he hg hs hw h1) λD σ H ⟨A,H₀,B,S,Me⟩=>aQ S λv H1 e1 d1=>⟨A,H₀,B,S.mono e1,d1,λσ' B' S'=>Me.nx _ _ _ _ rfl S'⟩) λ_ e=>e ▸ hr
theorem v5 (T:Nat->List Sl) {f:Nat->D} (B:Bk X k) (hi:PI X tg it (dI X.K τ xs)) (hl:xs.length < 1000000) (hT:∀ i,(T i).length=(bD τ (bCp X.N scope)++[Sl.un]).length/\∀ (l:Nat) (x:D),(bD τ (bCp X.N scope)++[Sl.un])[l]?=some (.d x)->(T i)[l]?=some (.d x))
   (hg:∀ i (h:i < xs.length) s H fp,PG (cpX X s H scope fp) tg (dG X.K (bD τ (bCp X.N scope)++[.un]) xs[i] (T i)))
   (he:∀ i,i < xs.length->∀ s H fp,PE (cpX X s H scope fp) elt (dE X.K true (T i) (.d (f i)))) (hc:bOk X.env.scope scope=true:=by kernel_rfl) (hs:∀ x,foldedSetIterable it X.env x=pure x:=by intro _; rfl) :
   Cmp X elt tg it [] scope τ ((List.range xs.length).map f):=by
 have h:=kL (T:=T) (t:=λ_=>true) (f:=f) (elt:=elt) (ifs:=[]) hc hi hT hg (λi h s H fp=>λpins s' σ H' Q I ⟨A,H₀,B,S,q⟩=>mj pins s' σ H' Q I (q H' (aq.refl _))) (λi h _ s H fp=>he i h s H fp) hl hs
 rwa [List.filter_eq_self.mpr λ_ _=>rfl] at h
theorem qp {c:Expr} {t:TT} (h:PT X c t):PTs X [c] t:=λpins s σ H Q I q=>wpAny_tests_one (h pins s σ H Q I q)
theorem l4 (j:Nat) {n:Str} {g f:Nat->D} {t:Nat->Bool} (B:Bk X k) (hi:PI X (.Name n p) it (dI X.K τ xs)) (hx:∀ i (h:i < xs.length),xs[i]=g i) (hl:xs.length < 1000000)
   (ht:∀ i,i < xs.length->∀ s H fp,PT (cpX X s H scope fp) c (dT X.K ((bD τ (bCp X.N scope)++[Sl.un]).set j (.d (g i))) (t i)))
   (he:∀ i,i < xs.length->t i=true->∀ s H fp,PE (cpX X s H scope fp) elt (dE X.K true ((bD τ (bCp X.N scope)++[Sl.un]).set j (.d (g i))) (.d (f i))))
   (hc:bOk X.env.scope scope=true:=by kernel_rfl) (hu:(bD τ (bCp X.N scope)++[Sl.un])[j]?=some .un:=by rfl) (hN:(bNm scope++[("#" : Str)])[j]?=some n:=by rfl) (hv:∀ s H fp,Loc (cpX X s H scope fp).env.scope n:=by intro _ _ _; first | exact .inl rfl | exact .inr rfl)
   (hf:∀ s H fp,(cpX X s H scope fp).fn n=true\/(cpX X s H scope fp).env.scope.names.lookup n=some .local:=by intro _ _ _; first | exact .inr rfl | exact .inl rfl) (hs:∀ x,foldedSetIterable it X.env x=pure x:=by intro _; rfl) :
   Cmp X elt (.Name n p) it [c] scope τ (((List.range xs.length).filter t).map f):=by
 refine kL (T:=λi=>(bD τ (bCp X.N scope)++[Sl.un]).set j (.d (g i))) (t:=t) (f:=f) (elt:=elt) (ifs:=[c]) hc hi (λi=>⟨List.length_set,λl x h=>?_⟩) (λi h s H fp=>?_) (λi h s H fp=>qp (ht i h s H fp)) he hl hs
 · rw [List.getElem?_set_ne (λz=>by rw [<- z,hu] at h; cases h)]
   exact h
 · rw [hx i h]
   exact tw j (fX hc).2 hN (hv s H fp) (hf s H fp)
end
section
variable {X:Cx} {C:Bool} {τ τ':List Sl} {x y z:D} {a b e c tg it elt o ix:Expr} {es ifs:List Expr} {pos p q:Pos} {k:Nat} {s:Sl} {N:Po} {rest body:List Stmt} {ds xs ys:List D} {i:Nat} {scope:Scope}
theorem tH (j l:Nat) {n m:Str} {p2 pt:Pos} {md:Nat} {g g' f:Nat->D} (B:Bk X k) (hi:PI X (.Tuple [.Name n p,.Name m p2] md pt) it (dI X.K τ xs)) (hx:∀ i (h:i < xs.length),xs[i]=.tup [g i,g' i]) (hl:xs.length < 1000000)
   (he:∀ i,i < xs.length->∀ s H fp,PE (cpX X s H scope fp) elt (dE X.K true (((bD τ (bCp X.N scope)++[Sl.un]).set j (.d (g i))).set l (.d (g' i))) (.d (f i))))
   (hc:bOk X.env.scope scope=true:=by kernel_rfl) (hu:(bD τ (bCp X.N scope)++[Sl.un])[j]?=some .un:=by rfl) (hu':(bD τ (bCp X.N scope)++[Sl.un])[l]?=some .un:=by rfl) (hN:(bNm scope++[("#" : Str)])[j]?=some n:=by rfl) (hN':(bNm scope++[("#" : Str)])[l]?=some m:=by rfl) (hv:∀ s H fp,Loc (cpX X s H scope fp).env.scope n:=by intro _ _ _; first | exact .inl rfl | exact .inr rfl) (hv':∀ s H fp,Loc (cpX X s H scope fp).env.scope m:=by intro _ _ _; first | exact .inl rfl | exact .inr rfl)
   (hf:∀ s H fp,(cpX X s H scope fp).fn n=true\/(cpX X s H scope fp).env.scope.names.lookup n=some .local:=by intro _ _ _; first | exact .inr rfl | exact .inl rfl) (hf':∀ s H fp,(cpX X s H scope fp).fn m=true\/(cpX X s H scope fp).env.scope.names.lookup m=some .local:=by intro _ _ _; first | exact .inr rfl | exact .inl rfl) (hs:∀ x,foldedSetIterable it X.env x=pure x:=by intro _; rfl) :
   Cmp X elt (.Tuple [.Name n p,.Name m p2] md pt) it [] scope τ ((List.range xs.length).map f):=
 v5 (λi=>((bD τ (bCp X.N scope)++[Sl.un]).set j (.d (g i))).set l (.d (g' i))) B hi hl (λi=>⟨by rw [List.length_set,List.length_set],λr x h=>by
     rw [List.getElem?_set_ne (λz=>by rw [<- z,hu'] at h; cases h),List.getElem?_set_ne (λz=>by rw [<- z,hu] at h; cases h)]
     exact h⟩)
   (λi h s H fp=>by rw [hx i h]; exact rQ j l (B.comp s H scope fp).calm (fX hc).2 hN hN' (hv s H fp) (hv' s H fp) (hf s H fp) (hf' s H fp)) he hc hs
end
end Hy
namespace Hy
open PySem PySem.Spec PyProof.Rows L2
open Ev (D Den ar ah aM aG)
section
variable {X:Cx} {C:Bool} {τ:List Sl} {x y z:D} {a b e o ix:Expr} {es:List Expr} {pos p q:Pos} {k:Nat} {s:Sl} {N:Po} {rest:List Stmt} {i j:Nat} {t c:Nd} {pt:List Nat} {xs:List Nd} {m:Nat}
end
noncomputable def par:D->Bool
 | .tup [x,y]=>flat x && flat y
 | _=>false
section
variable {K:PySem.W.Frag} {G H:Hp}
end
section
variable {X:Cx} {τ:List Sl} {e:Expr} {pos:Pos} {N:Po} {rest:List Stmt}
end
end Hy
namespace Hy
open PySem PySem.Spec PyProof.Rows L2
open Ev (D Den ar)
theorem _root_.L2.Fun.tT {K:PySem.W.Frag} {x qual:Str} {st:Stmt} {f T:Addr} {fd:FuncData} {ps:List Str} {c:Value} {d:Option Addr} {items:Array Value} {n:Nat} {sl:Array (Option Value)} (_:L2.Fun K x qual st f fd) (hd:fd.defaults=.ref T) (lT:K.lookup T=some ⟨c,d,.seq items n,sl⟩)
   (h:∀ us:List Value,us.length=ps.length->∃ k,bindArgs fd ⟨us,[]⟩=seqItems? fd.defaults >>= k/\k (some items)=pure (ps.zip us)):L2.Binds K fd ps []:=λs us X hl=>by
 rw [List.append_nil] at hl ⊢
 obtain ⟨k,h1,h2⟩:=h us hl
 exact .of_defaults hd (X _ _ lT) rfl h1 h2
noncomputable def oM (K:PySem.W.Frag) (x:Str) (st:Stmt) (f:Addr) (i:Int):Prop:=PySem.W.nsIn K mainGlobals x=some (some (.ref f))/\(∃ oc od kV dc pm an cd ct sl T td tl tc tt tn,K.lookup f=some ⟨oc,od,.func (PySem.W.fnOf x x (bH st) (bh st) (ag st) (.ref T) kV dc pm an cd ct),sl⟩/\PySem.W.codeIn K cd x=true/\K.lookup T=some ⟨tc,td,.seq #[.int i tt] tn,tl⟩)/\PySem.W.keepIn K (.ref f)=true
section
variable {P:Program} {w:World} {K:PySem.W.Frag} {h:Heap} {mg:Str->Option Value} {base:Heap} {x:Str} {st:Stmt} {f:Addr} {ps:List Str} {k:Nat} {Φ:List D->Sl->Prop} {i:Int}
theorem oM.of {oc tc:Value} {od an td:Option Addr} {kV dc pm cd ct:Value} {sl tl:Array (Option Value)} {T:Addr} {tt:Tok} {tn:Nat} (a:PySem.W.nsIn K mainGlobals x=some (some (.ref f))) (l:K.lookup f=some ⟨oc,od,.func (PySem.W.fnOf x x (bH st) (bh st) (ag st) (.ref T) kV dc pm an cd ct),sl⟩) (c:PySem.W.codeIn K cd x=true) (d:K.lookup T=some ⟨tc,td,.seq #[.int i tt] tn,tl⟩) (k:PySem.W.keepIn K (.ref f)=true):oM K x st f i:=⟨a,⟨_,_,_,_,_,_,_,_,_,_,_,_,_,_,_,l,c,d⟩,k⟩
theorem oM.cal (d:oM K x st f i) (X:K.In h) (G:h.Ns mainGlobals mg) (b:∀ (T:Addr) (tt:Tok) (kV dc pm:Value) (an:Option Addr) (cd ct:Value) (us:List Value),us.length=ps.length->∃ k,bindArgs (PySem.W.fnOf x x (bH st) (bh st) (ag st) (.ref T) kV dc pm an cd ct) ⟨us,[]⟩=seqItems? (.ref T) >>= k/\k (some #[.int i tt])=pure (ps.zip us))
   (o:∀ fd,Fun K x x st f fd->aN P w K mg base CX0 k f fd ps (spD K Φ)):Cal P w K mg base k x Φ:=by
 obtain ⟨a,⟨oc,od,kV,dc,pm,an,cd,ct,sl,T,td,tl,tc,tt,tn,l,c',dt⟩,q⟩:=d
 have F:=lz l c' q
 exact ⟨f,_,ps,o _ F,PySem.W.mg_of X G a,q,F.tT rfl dt (b T tt kV dc pm an cd ct)⟩
end
section
variable {K:PySem.W.Frag} {G G' H:Hp}
end
end Hy
namespace Lc
open PySem PySem.Spec PyProof.Rows L2
open PySem.AutoSeq1 (wpAny_loadPart')
open PySem.MeetsSeq PySem.MeetsSeq2 PySem.MeetsSeq3 PySem.SeqRoads2 PySem.SeqAt
open Ev (D Den ar lh)
section
variable {X:Cx} {pins:List (Addr × Obj)} {σ:L2.St} {H G:Hp} {s:Shared}
open Ev (cln nL dep nZ)
end
end Lc
namespace Hy
open PySem PySem.Spec PyProof.Rows L2
open Ev (D Den ar lh)
end Hy
namespace Hy
open PySem PySem.Spec PyProof.Rows L2
open Ev (D Den ar)
section
variable {K:PySem.W.Frag} {A:Addr->Prop} {H₀ H H':Hp} {τ:List Sl} {B:Nat->List Addr} {σ:L2.St}
end
section
variable {X:Cx} {τ:List Sl} {x y z:D} {a b e c:Expr} {es:List Expr} {pos p q:Pos} {k:Nat} {s:Sl} {ds:List D} {N:Po} {rest body:List Stmt}
end
section
variable {P:Program} {w:World} {K:PySem.W.Frag} {mg:Str->Option Value} {base:Heap}
end
section
variable {X:Cx} {τ:List Sl} {es:List Expr} {pos p q pr:Pos} {k:Nat} {s:Sl} {ds:List D} {N:Po} {rest:List Stmt}
end
end Hy
namespace Hy
open PySem PySem.Spec PyProof.Rows L2
open Ev (D Den ar aF aE ah aM aG)
section
variable {X:Cx} {i:Int}
end
end Hy
namespace Su
open PySem PyProof.Rows HT
open PySem.SeqAt
open PySem.AutoSeq1 (wpAny_loadPart')
open PySem.MeetsSeq PySem.MeetsSeq2 PySem.MeetsSeq3
section
variable {prog:Program} {w:World} {A:Around} {E:Value->Shared->Prop} {s:Shared}
end
end Su
namespace Hy
open PySem PySem.Spec PyProof.Rows L2
open Ev (D Den ar aF aE ah aM aG)
section
variable {X:Cx} {C:Bool} {τ:List Sl} {x y z:D} {a b e:Expr} {es:List Expr} {pos p:Pos} {k:Nat} {s:Sl} {ds xs ys:List D} {i j:Int} {N:Po} {rest:List Stmt}
theorem rF:OpR X (binaryOp .Add) (λx y H Q=>∃ a b ys,x=.ref a/\y=.ref b/\SqT X.K H a []/\SqT X.K H b ys/\Q (.ref b) H):=by
 intro pins s σ H x y v u Q I rx ry h
 obtain ⟨a,b,ys,rfl,rfl,ha,hb,q⟩:=h
 cases rx
 cases ry
 obtain ⟨its,r1,p1,_⟩:=I.tuple ha
 obtain ⟨its2,r2,p2,_⟩:=I.tuple hb
 cases r1
 obtain ⟨⟨cls,dd,data,sl⟩,ho,hc,n,hd⟩:=id p1
 obtain ⟨⟨cls2,dd2,data2,sl2⟩,ho2,hc2,n2,hd2⟩:=id p2
 simp only at hc hd hc2 hd2
 subst hc hd hc2 hd2
 exact concat_meets ⟨_,ho,rfl⟩ ⟨_,ho2,rfl⟩ noFill_tuple_add seq_tuple_add PySem.F.slot_tuple_add PySem.F.entry_tuple_add (PySem.F.args_tuple_add_2 _ _) (tuple_addW0 a b _ _ n n2 dd dd2 sl sl2 (by simp)) ⟨ho,ho2,⟨.ref b,H,I,rfl,q⟩⟩
theorem pE (hl:xs.length + ys.length < 1000000):cD X (binaryOp .Add) (.tup xs) (.tup ys) (.tup (xs++ys)):=by
 have lim:1000000<=sizeLine:=by decide
 cases xs with
 | nil=>exact ⟨_,rF,λM v w H Q _ d1 d2 k=>by
     cases d1 with
     | tup h1 r1=>
       cases r1
       cases d2 with
       | tup h2 r2=>exact ⟨_,_,_,rfl,rfl,aM aI h1,aM aI h2,k _ H (aq.refl _) (.tup h2 r2)⟩⟩
 | cons x0 xs=>exact ⟨_,qx,λM v w H Q hM d1 d2 k=>by
     cases d1 with
     | @tup a1 vs _ h1 r1=>
     cases d2 with
     | @tup a2 ws _ h2 r2=>
     have l1:=r1.length
     have l2:=r2.length
     refine ⟨_,_,_,_,rfl,rfl,aM aI h1,aM aI h2,λz=>by subst z; simp at l1,by omega,λz=>?_,λ_ p hp=>?_⟩
     · subst z
       cases r2
       rw [List.append_nil] at k
       exact k _ H (aq.refl _) (.tup h1 r1)
     · have e:=ah hp (.tup (vs++ws))
       exact k _ _ e (.tup (SqT.of (hJ hM hp)) ((r1.append r2).mono (ay e λ_ z=>z)))⟩
end
section
variable {X:Cx} {C:Bool} {τ:List Sl} {x y z:D} {a b e:Expr} {es:List Expr} {pos p:Pos} {k:Nat} {s:Sl} {ds xs ys:List D} {N:Po} {rest:List Stmt}
theorem sk (i:Nat) {n:Str} {ap cp:Pos} (he:PE X e (dE X.K true τ (.o ys))) (hl:xs.length + ys.length < 1000000) (hr:PSs X rest (dS X.K (τ.set i (.o (xs++ys))) N)) (hi:τ[i]?=some (.o xs):=by rfl) (hN:X.N[i]?=some n:=by rfl)
   (hv:Vis X.env.scope n:=by first | exact Or.inl rfl | exact Or.inr (Or.inl rfl) | exact Or.inr (Or.inr rfl)) (hd:(n == ("__debug__" : Str))=false:=by decide) (hcd:(n == ("__classdict__" : Str))=false:=by decide)
   (hfew:((backTo cp (starEach [e] X.env)).all (λx=>!x.1) && (backToKw cp (keywordEach [] X.env)).all (λx=>x.1.isSome) && decide (([e]:List Expr).length + ([]:List Keyword).length + (if ([]:List Keyword).isEmpty then 0 else 1) < 30))=true:=by rfl)
   (hline:(ap.endLine == cp.line)=true:=by rfl) (hst:starEach [e] X.env=(false,eval e X.env) :: starEach [] X.env:=by rfl) (hpl:(backTo cp (starEach [] X.env)).any (·.1)=false:=by rfl)
   (hs:swapsWith (.Call (.Attribute (.Name n p) "extend" ap) [e] [] cp) none pos.line X.env=pure false:=by rfl) (hbase:attributeBase (.Name n p) "extend" X.env (eval (.Name n p) X.env)=eval (.Name n p) X.env:=by rfl) :
   PSs X (.Expr (.Call (.Attribute (.Name n p) "extend" ap) [e] [] cp) pos :: rest) (dS X.K τ N):=
 bz (M:=(·=τ.set i (.o (xs++ys)))) (psW (jd (se PySem.F.plainAttrs_list PySem.F.slot_list_extend PySem.F.type_list_extend m3 (eg hN hv hd hcd) (eQ he jb hst) hbase hfew hline hst hpl) hs) λD σ H ⟨A,H₀,B,S,Me⟩=>by
   obtain ⟨l,vs,hb,e1,e2,d⟩:=S.sl i _ hi
   refine ⟨_,slot_of e1,.inl ⟨rfl,_,SqL.of e2⟩,A,H₀,B,S,λv H1 bs e3 fr ⟨l2,ws,eb,ev,h2,d2⟩=>?_⟩
   cases ev
   have lim:1000000<=sizeLine:=by decide
   refine ⟨l,l2,vs,ws,rfl,rfl,e3 _ _ e2,h2,by rw [d.length,d2.length]; omega,?_⟩
   exact Me.nx _ _ _ _ rfl ((S.mono e3).put hi hb ((d.mono (ay e3 λ_ z=>z)).append (d2.mono (ay (aq.refl _) λ_ z=>.inl z))))) λ_ e=>e ▸ hr
end
end Hy
namespace Hy
open PySem PySem.Spec PyProof.Rows L2
open Ev (D Den ar ah aM aG)
section
variable {X:Cx}
end
section
variable {X:Cx} {C:Bool} {τ:List Sl} {x y z:D} {a b e f o ix:Expr} {es:List Expr} {pos p q:Pos} {k:Nat} {s:Sl} {N:Po} {rest:List Stmt} {i:Nat} {t c:Nd} {pt:List Nat} {xs:List Nd} {j:Int} {m:Nat}
end
noncomputable def Pj (σ:L2.St) (H:Hp) (i j k:Nat):Prop:=∃ a vs v,(σ[i]?).join=some (.ref a)/\H a=some (.lst vs)/\vs[k]?=some v/\σ[j]?=some (some v)
noncomputable def dEJ (K:PySem.W.Frag) (τ:List Sl) (i j k:Nat) (x:D):TE:=λσ H Q=>∃ A H₀ B,Sta K A H₀ τ B σ H/\Pj σ H i j k/\∀ v H',aq H H'->Den K (hd H' A) v x->Q v H'
section
variable {X:Cx} {τ τ1 τ2:List Sl} {x y z:D} {a b e o ix:Expr} {es:List Expr} {pos p q:Pos} {l:Nat} {s:Sl} {N:Po} {st:Stmt} {body rest:List Stmt} {i j k:Nat} {t c:Nd} {pt:List Nat} {xs:List Nd} {m:Nat} {ds:List D}
end
end Hy
namespace Hy
open PySem PySem.Spec PyProof.Rows L2
open Ev (D Den ar ah)
section
variable {X:Cx} {C:Bool} {τ:List Sl} {x y z:D} {a b e:Expr} {es:List Expr} {pos p np cpos:Pos} {k c:Nat} {s:Sl} {ds:List D} {N:Po} {rest body:List Stmt} {cl:Nat->Addr} {Ex:Nat->Hp->Prop} {Et:Hp->Prop}
end
section
variable {P:Program} {w:World} {K:PySem.W.Frag} {mg:Str->Option Value} {base:Heap} {cl:Nat->Addr}
end
section
variable {X:Cx} {C:Bool} {τ:List Sl} {e:Expr} {k c i:Nat} {N:Po} {rest body:List Stmt} {cl:Nat->Addr} {n:Str} {fw S:Addr} {p p' q psm pr ph pos:Pos}
end
section
variable {X:Cx} {C:Bool} {τ:List Sl} {x y z:D} {a b e c0 tg it elt:Expr} {es ifs:List Expr} {pos p q q':Pos} {k c:Nat} {cl:Nat->Addr} {xs:List D} {scope:Scope}
end
section
variable {P:Program} {w:World} {K:PySem.W.Frag} {mg:Str->Option Value} {base:Heap} {cl:Nat->Addr}
end
end Hy
namespace Hy
open PySem PySem.Spec PyProof.Rows L2
open Ev (D Den ar bU cW)
section
variable {X:Cx} {C:Bool} {τ:List Sl} {a e tg it elt:Expr} {es ifs:List Expr} {pos p:Pos} {Et:Hp->Prop} {scope:Scope}
end
end Hy
namespace Hy
open PySem PySem.Spec PyProof.Rows L2
open Ev (D Den ar)
section
variable {P:Program} {w:World} {K:PySem.W.Frag} {h:Heap} {mg:Str->Option Value} {base:Heap} {x:Str} {st:Stmt} {f:Addr} {ps:List Str} {k:Nat} {Φ:List D->Nat->Prop} {cl:Nat->Addr}
end
end Hy
namespace L2
open PySem PySem.Spec PyProof.Rows
section
variable {κ:Type} [DecidableEq κ]
end
section
variable {P:Program} {w:World} {H:Hp} {h:Heap} {a:Addr}
end
section
variable {X:Cx} {pins:List (Addr × Obj)} {σ:St} {H:Hp} {s:Shared} {a:Addr} {y v:V} {u r:Value} {o:Option V} {A:Around} {E:Value->Shared->Prop}
theorem Inv.big (I:Inv X pins σ H s):sysModules < s.heap.objs.size:=by
 have h:mainGlobals < s.heap.objs.size:=(I.mod.glob.keeps I.bk).lt
 exact Nat.lt_trans (by decide) h
theorem jh {h':Heap} {t':Nat} {ob:HO} (I:Inv X pins σ H s) (mu:Mut (H a)) (hs:Heap.SameBut a s.heap h') (he:∃ q,h'.get? a=some q) (new:bw X.prog X.w (upd H a ob) h' a ob) :
   Inv X pins σ (upd H a ob) { s with heap:=h',toks:=t' }:=
 I.write (x:=a) (e:=a) mu (.inl rfl) (λb q hb z=>(hs.2 b hb).trans z) he new
end
section
variable {X:Cx} {pins:List (Addr × Obj)} {σ:St} {H:Hp} {s:Shared} {a:Addr} {kvs:List (Key × V)} {k:Key} {u:Value} {A:Around} {E:Value->Shared->Prop}
end
noncomputable def jZ (i:Expr):Prop:=∀ ov iv,subscripted i false ov iv=operate [ov,iv] (getItem ov iv)
theorem mN {prog:Program} {w:World} {A:Around} {E:Value->Shared->Prop} {s:Shared} {env:Env} {value slice:Expr} {pos:Pos} {T id:String} {Q:Value->Shared->Prop}
   (hl:typeLookup (.type T) "__getitem__" = pure (some (.builtin id))) (hs:jZ slice)
   (h:wpAny (model prog w) A (eval value env) (λo s₁=>wpAny (model prog w) A (eval slice env) (λi s₂=>s₂.TypeIs o T/\wpAny (model prog w) A (getItem o i) Q E s₂) E s₁) E s) :
   wpAny (model prog w) A (eval (.Subscript value slice pos) env) Q E s:=by
 refine Subscript_ (wpAny_mono h (λo s₁ h₁=>wpAny_mono h₁ (λi s₂ h₂=>?_) λ_ _ x=>x) λ_ _ x=>x)
 obtain ⟨hT,h₂⟩:=h₂
 unfold subscriptTail
 refine wpAny_bind ?_
 rw [getitemInPython_of_ne hT.not_modules]
 refine wpAny_bind (wpAny_specialOf hT hl ?_)
 have fin:wpAny (model prog w) A (subscripted slice false o i) (λr s₃=>wpAny (model prog w) A (letTemporaryGo value o r >>= λ_=>pure r) Q E s₃) E s₂:=by
   rw [hs o i]
   exact wpAny_operating (wpAny_mono h₂ (λr s₃ h₃=>wpAny_bind (wpAny_letTemporaryGo (wpAny_pure h₃))) λ_ _ x=>x)
 first
   | exact wpAny_pure (wpAny_bind fin)
   | exact wpAny_bind (wpAny_pure (wpAny_bind fin))
   | exact wpAny_bind fin
section
variable {X:Cx} {o i e value:Expr} {pos pos' tpos:Pos} {td ty tv:TE}
end
section
variable {X:Cx} {pos:Pos}
end
section
variable {X:Cx} {pins:List (Addr × Obj)} {σ:St} {H:Hp} {s:Shared} {a:Addr} {y d:V} {u r:Value} {o:Option V} {A:Around} {E:Value->Shared->Prop}
end
section
variable {X:Cx} {o e f:Expr} {apos cpos:Pos} {td ty tx:TE}
end
end L2
namespace L2
open PySem PySem.Spec PyProof.Rows PySem.SeqAt
section
variable {P:Program} {w:World} {A:Around} {E:Value->Shared->Prop} {s:Shared}
noncomputable def HK (P:Program) (w:World) (A:Around) (h:Heap) (v:Value) (x:Int) (d:Nat):Prop:=
 ∀ (s:Shared) (E:Value->Shared->Prop) (Q:Int->Shared->Prop),s.heap=h->Q x { s with toks:=s.toks + d }->wpAny (model P w) A (pyHash v) Q E s
theorem nP {a:Addr} {u v:Value} {x y:Int} {m n:Nat} {Q:Int->Shared->Prop} (hu:A.units < cLine) (hk:IsTup s.heap a #[u,v]) (h1:∀ B,B.units<=A.units + 1->HK P w B s.heap u x m) (h2:∀ B,B.units<=A.units + 1->HK P w B s.heap v y n)
   (h:Q (reduceHash (Builtin.Tuple.tupleHashOf [x,y])) { s with toks:=s.toks + (m + n + 1) }):wpAny (model P w) A (pyHash (.ref a)) Q E s:=by
 obtain ⟨o,ho,hc,k,hd⟩:=hk
 have hT:s.TypeIs (.ref a) "tuple":=⟨o,ho,hc⟩
 unfold pyHash
 refine wpAny_bind (wpAny_cRoomFor_or (.inr hu) ?_)
 refine wpAny_bind (wpAny_specialOf hT F.slot_tuple_hash.lookup ?_)
 show wpAny _ _ (if (some (Value.builtin "tuple.__hash__") == some Value.none)=true then _ else _) Q E s
 rw [if_neg (by rw [beq_builtin_none]; exact Bool.false_ne_true)]
 refine wpAny_bind (wpAny_specialOf hT F.slot_tuple_hash.lookup ?_)
 show wpAny _ _ (callSpecialIfBoundUnlessNone? (.ref a) "__hash__" _ >>= _) Q E s
 refine wpAny_bind (wpAny_callSpecialIfBoundUnlessNone?_slot hT F.slot_tuple_hash (wpAny_call_entry F.slot_tuple_hash hT F.entry_tuple_hash ?_ (F.args_tuple_hash_1 _)))
 show wpAny _ _ (Builtin.Tuple.tupleItemsOf (.ref a) >>= _) _ _ s
 refine wpAny_bind (wpAny_tupleItemsOf ho hd ?_)
 refine wpAny_bind ?_
 rw [<- Array.forIn_toList]
 refine wpAny_forIn_list _
   (λrest (b:Array Int) s'=>(rest=[u,v]/\b=#[]/\s'=s)\/(rest=[v]/\b=#[x]/\s'={ s with toks:=s.toks + m })\/(rest=[]/\b=#[x,y]/\s'={ s with toks:=s.toks + (m + n) }))
   _ ?_ ?_ _ _ (.inl ⟨rfl,rfl,rfl⟩)
 · rintro z rest b s' (⟨e,rfl,rfl⟩ | ⟨e,rfl,rfl⟩ | ⟨e,_⟩)
   · cases e
     refine wpAny_bind (h1 _ ?_ _ _ _ rfl ?_)
     · exact Nat.le_refl _
     · exact wpAny_pure (.inr (.inl ⟨rfl,rfl,rfl⟩))
   · cases e
     refine wpAny_bind (h2 _ ?_ _ _ _ rfl ?_)
     · exact Nat.le_refl _
     · exact wpAny_pure (.inr (.inr ⟨rfl,rfl,by simp [Nat.add_assoc]⟩))
   · cases e
 · rintro b s' (⟨e,_⟩ | ⟨e,_⟩ | ⟨_,rfl,rfl⟩)
   · cases e
   · cases e
   show wpAny _ _ (retInt (Builtin.Tuple.tupleHashOf [x,y])) _ _ _
   refine wpAny_ret_mkInt ?_
   show wpAny _ _ (if (decide (-(2:Int) ^ 63<=Builtin.Tuple.tupleHashOf [x,y]) && decide (Builtin.Tuple.tupleHashOf [x,y] < 2 ^ 63))=true then _ else _) Q E _
   unfold reduceHash at h
   by_cases hr:(decide (-(2:Int) ^ 63<=Builtin.Tuple.tupleHashOf [x,y]) && decide (Builtin.Tuple.tupleHashOf [x,y] < 2 ^ 63))=true
   · rw [if_pos hr]
     rw [if_pos hr] at h
     exact wpAny_pure (by simpa [Nat.add_assoc] using h)
   · rw [if_neg hr]
     rw [if_neg hr] at h
     exact wpAny_bind (wpAny_rule (wpAny_pure (by simpa [Nat.add_assoc] using h)))
theorem lJ {a:Addr} {u v:Value} {n:Nat} {Q:Bool->Shared->Prop} (hk:IsTup s.heap a #[u,v]) (h1:∀ A E Q,Q true s->wpAny (model P w) A (eqIsQuiet n u) Q E s) (h2:∀ A E Q,Q true s->wpAny (model P w) A (eqIsQuiet n v) Q E s) (h:Q true s) :
   wpAny (model P w) A (eqIsQuiet (n + 1) (.ref a)) Q E s:=by
 obtain ⟨o,ho,hc,k,hd⟩:=hk
 have hT:s.TypeIs (.ref a) "tuple":=⟨o,ho,hc⟩
 unfold eqIsQuiet
 refine wpAny_bind (wpAny_specialOf hT F.slot_tuple_eq.lookup ?_)
 show wpAny _ _ (isInstance (.ref a) (.type "tuple") >>= _) _ _ s
 refine wpAny_bind (wpAny_isInstance hT isSubtype_tuple_tuple ?_)
 simp only [Bool.not_true,Bool.false_eq_true,if_false]
 refine wpAny_bind (wpAny_seqItems ho hd ?_)
 refine wpAny_bind ?_
 show wpAny _ _ (forIn #[u,v] _ _) _ _ s
 rw [<- Array.forIn_toList]
 refine wpAny_forIn_list _ (λrest r s'=>r.1=none/\s'=s/\∀ z ∈ rest,z=u\/z=v) _ ?_ ?_ _ _ ⟨rfl,rfl,λz hz=>by simpa using hz⟩
 · rintro z rest r s' ⟨hr,rfl,hall⟩
   have hz:∀ A E Q,Q true s'->wpAny (model P w) A (eqIsQuiet n z) Q E s':=by
     rcases hall z List.mem_cons_self with rfl | rfl
     · exact h1
     · exact h2
   refine wpAny_bind (hz _ _ _ ?_)
   simp only [Bool.not_true,Bool.false_eq_true,if_false]
   exact wpAny_pure ⟨rfl,rfl,λx hx=>hall x (List.mem_cons_of_mem _ hx)⟩
 · rintro ⟨r1,r2⟩ s' ⟨hr,rfl,_⟩
   simp only at hr
   subst hr
   exact wpAny_pure h
theorem rb {a b:Addr} {u v u' v':Value} {p q:Bool} (hu:A.units < cLine) (ha:IsTup s.heap a #[u,v]) (hb:IsTup s.heap b #[u',v']) (h1:EqAt A.in1 s u u' p) (h2:EqAt A.in1 s v v' q) (hs:a=b->(p && q)=true):EqAt A s (.ref a) (.ref b) (p && q):=by
 by_cases z:a=b
 · subst z
   rw [hs rfl]
   exact .same _
 · have:=EqAt.of_refs z (RcAt.tuples (e:=λj=>if j=0 then p else q) ha hb hu λj j1 j2=>by
     match j,j1 with
     | 0,_=>exact h1
     | 1,_=>exact h2)
   have e:((List.range (min (#[u,v]:Array Value).size (#[u',v']:Array Value).size)).all (λj=>if j=0 then p else q) && (#[u,v]:Array Value).size == (#[u',v']:Array Value).size)=(p && q):=by
     show (p && (q && true) && true)=(p && q)
     cases p <;> cases q <;> rfl
   rw [e] at this
   exact this
end
theorem fY {h:Heap} {a:Addr} {x y:Array Value} (p:IsTup h a x) (q:IsTup h a y):x=y:=by
 obtain ⟨o,ho,_,n,hd⟩:=p
 obtain ⟨o',ho',_,n',hd'⟩:=q
 rw [ho] at ho'; cases ho'
 rw [hd] at hd'; cases hd'; rfl
theorem mv {h h':Heap} {a d:Addr} {x:Array Value} {o:Obj} {es ep} (p:IsTup h a x) (ho:h.get? d=some o) (hd:o.data=.dict es ep) (hs:Heap.SameBut d h h'):IsTup h' a x:=by
 obtain ⟨o',ho',hc,n,hd'⟩:=p
 have hne:a ≠ d:=by
   rintro rfl
   rw [ho] at ho'; cases ho'
   rw [hd] at hd'; exact nomatch hd'
 exact ⟨o',(hs.2 a hne).trans ho',hc,n,hd'⟩
structure IK (P:Program) (w:World) (K:Type) [DecidableEq K] where
 is:Heap->K->Value->Prop
 hash:K->Int
 draws:K->Nat
 dep:Nat
 inj:∀ {h:Heap} {v:Value} {x y:K},is h x v->is h y v->x=y
 keeps:∀ {h h':Heap} {k:K} {v:Value} {d:Addr} {o:Obj} {es ep},is h k v->h.get? d=some o->o.data=.dict es ep->Heap.SameBut d h h'->is h' k v
 hk:∀ {A:Around} {h:Heap} {k:K} {v:Value},is h k v->A.units + dep < cLine->HK P w A h v (hash k) (draws k)
 eq:∀ {A:Around} {s:Shared} {x y:K} {u v:Value},is s.heap x u->is s.heap y v->A.units + dep < cLine->EqAt A s u v (decide (x=y))
 quiet:∀ {s:Shared} {k:K} {v:Value} {n:Nat},dep < n->is s.heap k v->∀ A E Q,Q true s->wpAny (model P w) A (eqIsQuiet n v) Q E s
section
variable {P:Program} {w:World}
noncomputable def uX:IK P w Int where
 is:=λ_ k v=>∃ t,v=.int k t
 hash:=hashInt
 draws:=λ_=>1
 dep:=0
 inj:=λ⟨_,e⟩ ⟨_,g⟩=>by rw [e] at g; cases g; rfl
 keeps:=λh _ _ _=>h
 hk:=λ⟨_,e⟩ _ s E Q _ hq=>by rw [e]; exact wpAny_pyHash_int hq
 eq:=λ{A s x y u v} ⟨_,e⟩ ⟨_,g⟩ _=>by
   rw [e,g]
   have:decide (x=y)=(x == y):=by by_cases h:x=y <;> simp [h]
   rw [this]
   exact .int_int _ _ _ _
 quiet:=λ{s k v n} hn ⟨_,e⟩ A E Q q=>by
   obtain ⟨m,rfl⟩:∃ m,n=m + 1:=⟨n - 1,by omega⟩
   rw [e]
   exact wpAny_pure q
variable {K K':Type} [DecidableEq K] [DecidableEq K']
noncomputable def tJ (a:IK P w K) (b:IK P w K'):IK P w (K × K') where
 is:=λh k v=>∃ p u u',v=.ref p/\IsTup h p #[u,u']/\a.is h k.1 u/\b.is h k.2 u'
 hash:=λk=>reduceHash (Builtin.Tuple.tupleHashOf [a.hash k.1,b.hash k.2])
 draws:=λk=>a.draws k.1 + b.draws k.2 + 1
 dep:=max a.dep b.dep + 1
 inj:=λ{h v x y} ⟨p,u,u',e,t,h1,h2⟩ ⟨p',v1,v2,e',t',g1,g2⟩=>by
   rw [e] at e'
   cases e'
   have q:=fY t t'
   simp only [Array.mk.injEq,List.cons.injEq,and_true] at q
   obtain ⟨rfl,rfl⟩:=q
   exact Prod.ext (a.inj h1 g1) (b.inj h2 g2)
 keeps:=λ⟨p,u,u',e,t,h1,h2⟩ ho hd hs=>⟨p,u,u',e,mv t ho hd hs,a.keeps h1 ho hd hs,b.keeps h2 ho hd hs⟩
 hk:=λ{A h k v} ⟨p,u,u',e,t,h1,h2⟩ hu s E Q eh hq=>by
   rw [e]
   subst eh
   exact nP (by omega) t (λB hB=>a.hk h1 (by omega)) (λB hB=>b.hk h2 (by omega)) hq
 eq:=λ{A s x y u v} hx hy hu=>by
   obtain ⟨p,u1,u2,e,t,h1,h2⟩:=id hx
   obtain ⟨p',v1,v2,e',t',g1,g2⟩:=id hy
   have ed:decide (x=y)=(decide (x.1=y.1) && decide (x.2=y.2)):=by
     obtain ⟨x1,x2⟩:=x
     obtain ⟨y1,y2⟩:=y
     rw [Bool.eq_iff_iff]
     simp
   rw [e,e',ed]
   refine rb (by omega) t t' (a.eq h1 g1 (show A.units + 1 + a.dep < cLine by omega)) (b.eq h2 g2 (show A.units + 1 + b.dep < cLine by omega)) λz=>?_
   subst z
   have q:=fY t t'
   simp only [Array.mk.injEq,List.cons.injEq,and_true] at q
   obtain ⟨rfl,rfl⟩:=q
   rw [a.inj h1 g1,b.inj h2 g2]
   simp
 quiet:=λ{s k v n} hn ⟨p,u,u',e,t,h1,h2⟩ A E Q q=>by
   obtain ⟨m,rfl⟩:∃ m,n=m + 1:=⟨n - 1,by omega⟩
   rw [e]
   exact lJ t (a.quiet (by omega) h1) (b.quiet (by omega) h2) q
noncomputable def kindOf (a:IK P w K) (hd:a.dep<=7):HeapKind P w K where
 is:=λh k p=>a.is h k (.ref p)
 hash:=a.hash
 draws:=a.draws
 room:=λA=>A.units + 8 < cLine
 inj:=a.inj
 keeps:=a.keeps
 pyHash:=λ{A E s k p Q} hu hk h=>a.hk hk (by omega) s E Q rfl h
 eqBool:=λ{A E s x y p p' Q} hu hx hy h=>a.eq hx hy (by omega) _ _ _ _ h
 quiet:=λ{A E s k p Q} hk h=>a.quiet (by omega) hk A E Q h
end
inductive cy {K:Type} (R:K->Value->Prop):List K->List Value->Prop where
 | nil:cy R [] []
 | cons {x:K} {v:Value} {xs:List K} {vs:List Value} (h:R x v) (r:cy R xs vs):cy R (x :: xs) (v :: vs)
section
variable {K:Type}
theorem cy.mono {R S:K->Value->Prop} (f:∀ x v,R x v->S x v):∀ {xs:List K} {vs:List Value},cy R xs vs->cy S xs vs
 | _,_,.nil=>.nil
 | _,_,.cons h r=>.cons (f _ _ h) (r.mono f)
theorem cy.inj {R:K->Value->Prop} (f:∀ x y v,R x v->R y v->x=y):∀ {xs ys:List K} {vs:List Value},cy R xs vs->cy R ys vs->xs=ys
 | _,_,_,.nil,.nil=>rfl
 | _,_,_,.cons h r,.cons g q=>by rw [f _ _ _ h g,r.inj f q]
theorem cy.length {R:K->Value->Prop}:∀ {xs:List K} {vs:List Value},cy R xs vs->xs.length=vs.length
 | _,_,.nil=>rfl
 | _,_,.cons _ r=>congrArg (· + 1) r.length
theorem cy.at {R:K->Value->Prop}:∀ {xs:List K} {vs:List Value},cy R xs vs->∀ (j:Nat) (h1:j < xs.length) (h2:j < vs.length),R xs[j] vs[j]
 | _,_,.nil,_,h1,_=>absurd h1 (Nat.not_lt_zero _)
 | _,_,.cons h _,0,_,_=>h
 | _,_,.cons _ r,j + 1,h1,h2=>r.at j (Nat.lt_of_succ_lt_succ h1) (Nat.lt_of_succ_lt_succ h2)
theorem cy.mem {R:K->Value->Prop}:∀ {xs:List K} {vs:List Value},cy R xs vs->∀ v ∈ vs,∃ x,R x v
 | _,_,.nil,_,h=>nomatch h
 | _,_,.cons h r,v,hv=>(List.mem_cons.mp hv).elim (λz=>⟨_,z ▸ h⟩) (r.mem v)
theorem all_eq [DecidableEq K] {xs ys:List K}:((List.range (min xs.length ys.length)).all (λj=>decide (xs[j]?=ys[j]?)) && xs.length == ys.length)=decide (xs=ys):=by
 rw [Bool.eq_iff_iff]
 simp only [Bool.and_eq_true,List.all_eq_true,List.mem_range,decide_eq_true_eq,beq_iff_eq]
 constructor
 · rintro ⟨h1,h2⟩
   refine List.ext_getElem? λj=>?_
   by_cases hj:j < xs.length
   · exact h1 j (by omega)
   · rw [List.getElem?_eq_none (by omega),List.getElem?_eq_none (by omega)]
 · rintro rfl
   exact ⟨λ_ _=>rfl,rfl⟩
end
section
variable {P:Program} {w:World} {K:Type} [DecidableEq K]
theorem nM {a:IK P w K} {A:Around} {E:Value->Shared->Prop} {s:Shared} {p:Addr} {its:List Value} {xs:List K} {Q:Int->Shared->Prop} (hu:A.units + (a.dep + 1) < cLine) (hk:IsTup s.heap p its.toArray) (hs:cy (a.is s.heap) xs its)
   (h:Q (reduceHash (Builtin.Tuple.tupleHashOf (xs.map a.hash))) { s with toks:=s.toks + ((xs.map a.draws).sum + 1) }):wpAny (model P w) A (pyHash (.ref p)) Q E s:=by
 obtain ⟨o,ho,hc,k,hd⟩:=hk
 have hT:s.TypeIs (.ref p) "tuple":=⟨o,ho,hc⟩
 unfold pyHash
 refine wpAny_bind (wpAny_cRoomFor_or (.inr (by omega)) ?_)
 refine wpAny_bind (wpAny_specialOf hT F.slot_tuple_hash.lookup ?_)
 show wpAny _ _ (if (some (Value.builtin "tuple.__hash__") == some Value.none)=true then _ else _) Q E s
 rw [if_neg (by rw [beq_builtin_none]; exact Bool.false_ne_true)]
 refine wpAny_bind (wpAny_specialOf hT F.slot_tuple_hash.lookup ?_)
 show wpAny _ _ (callSpecialIfBoundUnlessNone? (.ref p) "__hash__" _ >>= _) Q E s
 refine wpAny_bind (wpAny_callSpecialIfBoundUnlessNone?_slot hT F.slot_tuple_hash (wpAny_call_entry F.slot_tuple_hash hT F.entry_tuple_hash ?_ (F.args_tuple_hash_1 _)))
 show wpAny _ _ (Builtin.Tuple.tupleItemsOf (.ref p) >>= _) _ _ s
 refine wpAny_bind (wpAny_tupleItemsOf ho hd ?_)
 refine wpAny_bind ?_
 rw [<- Array.forIn_toList]
 refine wpAny_forIn_list _
   (λrest (b:Array Int) s'=>∃ (ks:List K) (n:Nat),cy (a.is s.heap) ks rest/\b.toList++ks.map a.hash=xs.map a.hash/\n + (ks.map a.draws).sum=(xs.map a.draws).sum/\s'={ s with toks:=s.toks + n })
   _ ?_ ?_ _ _ ⟨xs,0,hs,rfl,by omega,rfl⟩
 · rintro z rest b s' ⟨ks,n,hr,e1,e2,rfl⟩
   cases hr with
   | @cons x _ ks' _ hx hr=>
     refine wpAny_bind (a.hk hx (show A.units + 1 + a.dep < cLine by omega) _ _ _ rfl ?_)
     refine wpAny_pure ⟨ks',n + a.draws x,hr,?_,?_,by simp [Nat.add_assoc]⟩
     · simpa using e1
     · rw [List.map_cons,List.sum_cons] at e2
       omega
 · rintro b s' ⟨ks,n,hr,e1,e2,rfl⟩
   cases hr
   rw [List.map_nil,List.append_nil] at e1
   rw [List.map_nil,List.sum_nil,Nat.add_zero] at e2
   subst e2
   show wpAny _ _ (retInt (Builtin.Tuple.tupleHashOf b.toList)) _ _ _
   rw [e1]
   refine wpAny_ret_mkInt ?_
   show wpAny _ _ (if (decide (-(2:Int) ^ 63<=Builtin.Tuple.tupleHashOf (xs.map a.hash)) && decide (Builtin.Tuple.tupleHashOf (xs.map a.hash) < 2 ^ 63))=true then _ else _) Q E _
   unfold reduceHash at h
   by_cases hr:(decide (-(2:Int) ^ 63<=Builtin.Tuple.tupleHashOf (xs.map a.hash)) && decide (Builtin.Tuple.tupleHashOf (xs.map a.hash) < 2 ^ 63))=true
   · rw [if_pos hr]
     rw [if_pos hr] at h
     exact wpAny_pure (by simpa [Nat.add_assoc] using h)
   · rw [if_neg hr]
     rw [if_neg hr] at h
     exact wpAny_bind (wpAny_rule (wpAny_pure (by simpa [Nat.add_assoc] using h)))
theorem k6 {A:Around} {E:Value->Shared->Prop} {s:Shared} {p:Addr} {its:List Value} {n:Nat} {Q:Bool->Shared->Prop} (hk:IsTup s.heap p its.toArray) (h1:∀ z ∈ its,∀ A E Q,Q true s->wpAny (model P w) A (eqIsQuiet n z) Q E s) (h:Q true s) :
   wpAny (model P w) A (eqIsQuiet (n + 1) (.ref p)) Q E s:=by
 obtain ⟨o,ho,hc,k,hd⟩:=hk
 have hT:s.TypeIs (.ref p) "tuple":=⟨o,ho,hc⟩
 unfold eqIsQuiet
 refine wpAny_bind (wpAny_specialOf hT F.slot_tuple_eq.lookup ?_)
 show wpAny _ _ (isInstance (.ref p) (.type "tuple") >>= _) _ _ s
 refine wpAny_bind (wpAny_isInstance hT isSubtype_tuple_tuple ?_)
 simp only [Bool.not_true,Bool.false_eq_true,if_false]
 refine wpAny_bind (wpAny_seqItems ho hd ?_)
 refine wpAny_bind ?_
 show wpAny _ _ (forIn its.toArray _ _) _ _ s
 rw [<- Array.forIn_toList]
 refine wpAny_forIn_list _ (λrest r s'=>r.1=none/\s'=s/\∀ z ∈ rest,z ∈ its) _ ?_ ?_ _ _ ⟨rfl,rfl,λz hz=>by simpa using hz⟩
 · rintro z rest r s' ⟨hr,rfl,hall⟩
   refine wpAny_bind (h1 z (hall z List.mem_cons_self) _ _ _ ?_)
   simp only [Bool.not_true,Bool.false_eq_true,if_false]
   exact wpAny_pure ⟨rfl,rfl,λx hx=>hall x (List.mem_cons_of_mem _ hx)⟩
 · rintro ⟨r1,r2⟩ s' ⟨hr,rfl,_⟩
   simp only at hr
   subst hr
   exact wpAny_pure h
noncomputable def t4 (a:IK P w K):IK P w (List K) where
 is:=λh ks v=>∃ p its,v=.ref p/\IsTup h p its.toArray/\cy (a.is h) ks its
 hash:=λks=>reduceHash (Builtin.Tuple.tupleHashOf (ks.map a.hash))
 draws:=λks=>(ks.map a.draws).sum + 1
 dep:=a.dep + 1
 inj:=λ{h v x y} ⟨p,its,e,t,r⟩ ⟨p',its',e',t',r'⟩=>by
   rw [e] at e'
   cases e'
   have q:its=its':=congrArg Array.toList (fY t t')
   subst q
   exact cy.inj (R:=a.is h) (λ_ _ _ z1 z2=>a.inj z1 z2) r r'
 keeps:=λ⟨p,its,e,t,r⟩ ho hd hs=>⟨p,its,e,mv t ho hd hs,r.mono λ_ _ z=>a.keeps z ho hd hs⟩
 hk:=λ{A h k v} ⟨p,its,e,t,r⟩ hu s E Q eh hq=>by
   rw [e]
   subst eh
   exact nM hu t r hq
 eq:=λ{A s x y u v} hx hy hu=>by
   obtain ⟨p,its,e,t,r⟩:=id hx
   obtain ⟨p',its',e',t',r'⟩:=id hy
   rw [e,e']
   by_cases z:p=p'
   · subst z
     have q:its=its':=congrArg Array.toList (fY t t')
     subst q
     rw [decide_eq_true (cy.inj (R:=a.is s.heap) (λ_ _ _ z1 z2=>a.inj z1 z2) r r')]
     exact .same _
   · have:=EqAt.of_refs z (RcAt.tuples (e:=λj=>decide (x[j]?=y[j]?)) t t' (show A.units < cLine by omega) λj j1 j2=>by
       have l1:j < x.length:=by rw [r.length]; simpa using j1
       have l2:j < y.length:=by rw [r'.length]; simpa using j2
       rw [List.getElem?_eq_getElem l1,List.getElem?_eq_getElem l2]
       have:=a.eq (A:=A.in1) (r.at j l1 (by simpa using j1)) (r'.at j l2 (by simpa using j2)) (show A.units + 1 + a.dep < cLine by omega)
       simpa using this)
     have el:(its.toArray.size,its'.toArray.size)=(x.length,y.length):=by rw [r.length,r'.length]; simp
     have e1:its.toArray.size=x.length:=congrArg Prod.fst el
     have e2:its'.toArray.size=y.length:=congrArg Prod.snd el
     rw [e1,e2,all_eq] at this
     exact this
 quiet:=λ{s k v n} hn ⟨p,its,e,t,r⟩ A E Q q=>by
   obtain ⟨m,rfl⟩:∃ m,n=m + 1:=⟨n - 1,by omega⟩
   rw [e]
   refine k6 t (λz hz=>?_) q
   obtain ⟨x,hx⟩:=r.mem z hz
   exact a.quiet (by omega) hx
end
end L2
namespace Ev
open PySem PySem.Spec PyProof.Rows L2
structure KD (K:Type) [DecidableEq K] where
 ik:∀ (P:Program) (w:World),IK P w K
 dep:Nat
 dep_ok:∀ P w,(ik P w).dep=dep
 toD:K->D
 den:∀ {X:Cx} {pins:List (Addr × Obj)} {σ:L2.St} {H:Hp} {s:Shared} {v:V} {u:Value} {k:K},Inv X pins σ H s->Den X.K H v (toD k)->RelV v u->(ik X.prog X.w).is s.heap k u
noncomputable def vH:KD Int where
 ik:=λ_ _=>uX
 dep:=0
 dep_ok:=λ_ _=>rfl
 toD:=.int
 den:=λ_ d r=>by cases d; exact r
section
variable {K K':Type} [DecidableEq K] [DecidableEq K']
noncomputable def tX (a:KD K) (b:KD K'):KD (K × K') where
 ik:=λP w=>tJ (a.ik P w) (b.ik P w)
 dep:=max a.dep b.dep + 1
 dep_ok:=λP w=>by show max (a.ik P w).dep (b.ik P w).dep + 1=_; rw [a.dep_ok,b.dep_ok]
 toD:=λk=>.tup [a.toD k.1,b.toD k.2]
 den:=λ{X pins σ H s v u k} I d r=>by
   cases d with
   | tup h q=>
     cases (show u=Value.ref _ from r)
     obtain ⟨its,rv,t,_⟩:=I.tuple h
     cases q with
     | cons d1 q=>cases q with
       | cons d2 q=>cases q with
         | nil=>cases rv with
           | cons r1 rv=>cases rv with
             | cons r2 rv=>cases rv with
               | nil=>exact ⟨_,_,_,rfl,t,a.den I d1 r1,b.den I d2 r2⟩
theorem j0 (a:KD K) {X:Cx} {pins:List (Addr × Obj)} {σ:L2.St} {H:Hp} {s:Shared} (I:Inv X pins σ H s):∀ {ks:List K} {vs:List V} {us:List Value},ar X.K H vs (ks.map a.toD)->Vals vs us->cy ((a.ik X.prog X.w).is s.heap) ks us
 | [],_,_,.nil,.nil=>.nil
 | _ :: _,_,_,.cons d r,.cons q t=>.cons (a.den I d q) (j0 a I r t)
noncomputable def uE (a:KD K):KD (List K) where
 ik:=λP w=>t4 (a.ik P w)
 dep:=a.dep + 1
 dep_ok:=λP w=>by show (a.ik P w).dep + 1=_; rw [a.dep_ok]
 toD:=λks=>.tup (ks.map a.toD)
 den:=λ{X pins σ H s v u k} I d r=>by
   generalize e:D.tup (k.map a.toD)=x at d
   cases d with
   | tup h q=>
     cases e
     cases (show u=Value.ref _ from r)
     obtain ⟨its,rv,t,_⟩:=I.tuple h
     exact ⟨_,its,rfl,t,j0 a I q rv⟩
   | _=>cases e
noncomputable abbrev NEs (K:Type):=List (K × Addr × Value)
noncomputable def kd (a:KD K) (hd:a.dep<=7) (P:Program) (w:World):HeapKind P w K:=kindOf (a.ik P w) (by rw [a.dep_ok]; exact hd)
variable {a:KD K} {hd:a.dep<=7}
noncomputable def dNk (a:KD K) (hd:a.dep<=7) (P:Program) (w:World) (p:Addr) (xs:NEs K):HO:=.ext λh=>(p == sysModules)=false/\∃ o es ep,h.get? p=some o/\o.ExactDict/\o.data=.dict es ep/\es.toList=xs.map (entryOfKey (kd a hd P w))/\(xs.map (·.1)).Nodup
structure dY (a:KD K) (hd:a.dep<=7) (P:Program) (w:World) (F:PySem.W.Frag) (H:Hp) (d:Addr) (xs:NEs K):Prop where
 at_:H d=some (dNk a hd P w d xs)
 key:∀ x ∈ xs,Den F H (.ref x.2.1) (a.toD x.1)
variable {X:Cx} {pins:List (Addr × Obj)} {σ:L2.St} {H:Hp} {s:Shared} {d b:Addr} {xs:NEs K} {k:K} {A:Around} {E:Value->Shared->Prop}
theorem key_is (I:Inv X pins σ H s) (q:Den X.K H (.ref b) (a.toD k)):(kd a hd X.prog X.w).is s.heap k b:=a.den I q rfl
theorem oU (I:Inv X pins σ H s) (D:dY a hd X.prog X.w X.K H d xs):(d == sysModules)=false/\s.heap.DictOfH (kd a hd X.prog X.w) d xs:=by
 obtain ⟨⟨h0,o,es,ep,h1,h2,h3,h4,h5⟩,_⟩:=(show bw X.prog X.w H s.heap d (dNk a hd X.prog X.w d xs) from I.hok d _ D.at_)
 exact ⟨h0,o,es,ep,h1,h2,h3,h4,λx hx=>key_is I (D.key x hx),h5⟩
noncomputable def vB (a:KD K) (hd:a.dep<=7) (P:Program) (w:World) (F:PySem.W.Frag) (td ty:TE):TE:=λσ H Q=>td σ H λx H1=>ty σ H1 λy H2=>∃ d b k xs p v,x=.ref d/\y=.ref b/\dY a hd P w F H2 d xs/\Den F H2 (.ref b) (a.toD k)/\atKey xs k=some p/\RelV v p.2/\Q v H2
noncomputable def uM (a:KD K) (hd:a.dep<=7) (P:Program) (w:World) (F:PySem.W.Frag) (td ty tv:TE):TS:=λD σ H=>tv σ H λv H1=>td σ H1 λx H2=>ty σ H2 λy H3=>∃ d b k xs,x=.ref d/\y=.ref b/\dY a hd P w F H3 d xs/\Den F H3 (.ref b) (a.toD k)/\xs.length<=sizeLine/\∀ u,RelV v u->D.nx σ (upd H3 d (dNk a hd P w d (storedH xs k b u)))
noncomputable def u4 (a:KD K) (hd:a.dep<=7) (P:Program) (w:World):TE:=λ_ H Q=>∀ p,H p=none->Q (.ref p) (upd H p (dNk a hd P w p []))
variable {o i e value:Expr} {pos pos':Pos} {td ty tv:TE}
theorem fg (hu:X.A.units + 16 < cLine) (ho:PE X o td) (hi:PE X i ty) (hs:jZ i):PE X (.Subscript o i pos) (vB a hd X.prog X.w X.K td ty):=by
 intro pins s σ H Q I h
 refine mN PySem.F.slot_dict_getitem.lookup hs (thn (ho pins s σ H _ I h) λu s1 ⟨x,H1,I1,rx,q1⟩=>thn (hi pins s1 σ H1 _ I1 q1) λiv s2 ⟨y,H2,I2,ry,d,b,k,xs,p,v,ex,ey,D,g,hp,rv,q2⟩=>?_)
 subst ex ey
 obtain rfl:u=Value.ref d:=rx
 obtain rfl:iv=Value.ref b:=ry
 obtain ⟨_,dd⟩:=oU I2 D
 exact ⟨dd.typeIs,wpAny_getItem_heap (show X.A.units + 1 + 8 < cLine by omega) (key_is I2 g) dd hp ⟨v,H2,I2.tok _,rv,q2⟩⟩
theorem jz (hu:X.A.units + 16 < cLine) (ho:PE X o td) (hi:PE X i ty) (hv:PE X value tv) (hs:swapsWith value (some (.Subscript o i pos')) pos.line X.env=pure false) :
   PS X (.Assign [.Subscript o i pos'] value pos) (uM a hd X.prog X.w X.K td ty tv):=by
 intro pins s σ H D I h
 refine wpAny_Assign_Subscript (thn (hv pins s σ H _ I h) λr s1 ⟨v,H1,I1,rv,q1⟩=>thn (ho pins s1 σ H1 _ I1 q1) λu s2 ⟨x,H2,I2,rx,q2⟩=>thn (hi pins s2 σ H2 _ I2 q2) λiv s3 ⟨y,H3,I3,ry,d,b,k,xs,ex,ey,D',g,hl,q3⟩=>?_) hs
 subst ex ey
 obtain rfl:u=Value.ref d:=rx
 obtain rfl:iv=Value.ref b:=ry
 obtain ⟨hd',dd⟩:=oU I3 D'
 refine wpAny_setItem_heap (hsz:=hl) (show X.A.units + 1 + 8 < cLine by omega) (key_is I3 g) dd λh' dd' hs=>⟨σ,_,?_,q3 r rv⟩
 obtain ⟨q,es,ep,hq,h2,h3,h4,_,h5⟩:=dd'
 refine jh I3 (by rw [D'.at_]; exact True.intro) hs ⟨q,hq⟩ ⟨⟨hd',q,es,ep,hq,h2,h3,h4,h5⟩,⟨q,hq⟩,λa1 a2 ⟨z0,o,es,ep,z1,z2⟩ hk=>⟨z0,o,es,ep,hk o z1,z2⟩⟩
theorem jj:PE X (.Dict [] [] pos) (u4 a hd X.prog X.w):=λpins s σ H Q I h=>
 wpAny_Dict_empty ⟨.ref s.heap.objs.size,_,I.laid (a:=s.heap.objs.size) (o:=dNk a hd X.prog X.w s.heap.objs.size []) (t':=s.toks) (λ_ _ q=>Heap.get?_push_of_some _ q) (Nat.le_refl _)
   ⟨⟨beq_eq_false_iff_ne.mpr (Ne.symm (Nat.ne_of_lt I.big)),_,#[],0,Heap.get?_push_size _ rfl,⟨rfl,rfl,rfl⟩,rfl,rfl,List.nodup_nil⟩,⟨_,Heap.get?_push_size _ rfl⟩,λa1 a2 ⟨z0,o,es,ep,z1,z2⟩ hk=>⟨z0,o,es,ep,hk o z1,z2⟩⟩,rfl,h _ (I.hok.fresh (Nat.le_refl _))⟩
end
end Ev
namespace Hy
open PySem PySem.Spec PyProof.Rows L2
open Ev (D Den ar KD NEs dNk dY)
section
variable {K:Type} [DecidableEq K]
inductive EnK (a:KD K) (F:PySem.W.Frag) (G:Hp):NEs K->List (K × D)->Prop where
 | nil:EnK a F G [] []
 | cons {k:K} {b:Addr} {u:Value} {v:V} {x:D} {xs:NEs K} {m:List (K × D)} (hk:Den F G (.ref b) (a.toD k)) (hr:RelV v u) (hv:Den F G v x) (r:EnK a F G xs m):EnK a F G ((k,b,u) :: xs) ((k,x) :: m)
variable {a:KD K} {F:PySem.W.Frag} {G G':Hp}
theorem EnK.mono (e:aq G G'):∀ {xs:NEs K} {m:List (K × D)},EnK a F G xs m->EnK a F G' xs m
 | _,_,.nil=>.nil
 | _,_,.cons h1 h2 h3 r=>.cons (h1.mono e) h2 (h3.mono e) (r.mono e)
theorem EnK.length:∀ {xs:NEs K} {m:List (K × D)},EnK a F G xs m->xs.length=m.length
 | _,_,.nil=>rfl
 | _,_,.cons _ _ _ r=>congrArg (· + 1) r.length
theorem EnK.key:∀ {xs:NEs K} {m:List (K × D)},EnK a F G xs m->∀ x ∈ xs,Den F G (.ref x.2.1) (a.toD x.1)
 | _,_,.nil,_,h=>nomatch h
 | _,_,.cons h _ _ r,x,hx=>(List.mem_cons.mp hx).elim (λz=>z ▸ h) (r.key x)
noncomputable def getM (m:List (K × D)) (k:K):Option D:=(m.find? λx=>decide (x.1=k)).map (·.2)
noncomputable def c9 (m:List (K × D)) (k:K) (x:D):List (K × D):=if (getM m k).isSome then m.map λy=>if y.1=k then (y.1,x) else y else m++[(k,x)]
theorem EnK.at:∀ {xs:NEs K} {m:List (K × D)},EnK a F G xs m->∀ k,match getM m k with
   | none=>atKey xs k=none
   | some x=>∃ p v,atKey xs k=some p/\RelV v p.2/\Den F G v x
 | _,_,.nil,_=>rfl
 | _,_,.cons (k:=k') (x:=y) (m:=m) (xs:=xs) h1 h2 h3 r,k=>by
   have ih:=r.at k
   unfold getM atKey at *
   by_cases e:k'=k
   · simp only [List.find?_cons,e,decide_true,Option.map_some]
     exact ⟨_,_,rfl,h2,h3⟩
   · simp only [List.find?_cons,e,decide_false]
     exact ih
theorem EnK.isSome {xs:NEs K} {m:List (K × D)} (h:EnK a F G xs m) (k:K):(atKey xs k).isSome=(getM m k).isSome:=by
 have:=h.at k
 cases e:getM m k with
 | none=>rw [e] at this; simp only at this; rw [this]; rfl
 | some x=>rw [e] at this; obtain ⟨p,v,h1,_⟩:=this; rw [h1]; rfl
theorem EnK.snoc {k:K} {b:Addr} {u:Value} {v:V} {x:D} (h1:Den F G (.ref b) (a.toD k)) (h2:RelV v u) (h3:Den F G v x):∀ {xs:NEs K} {m:List (K × D)},EnK a F G xs m->EnK a F G (xs++[(k,b,u)]) (m++[(k,x)])
 | _,_,.nil=>.cons h1 h2 h3 .nil
 | _,_,.cons g1 g2 g3 r=>.cons g1 g2 g3 (r.snoc h1 h2 h3)
theorem EnK.over {k:K} {u:Value} {v:V} {x:D} (h2:RelV v u) (h3:Den F G v x):∀ {xs:NEs K} {m:List (K × D)},EnK a F G xs m->EnK a F G (xs.map (putAt k u)) (m.map λy=>if y.1=k then (y.1,x) else y)
 | _,_,.nil=>.nil
 | _,_,.cons (k:=k') g1 g2 g3 r=>by
   rw [List.map_cons,List.map_cons]
   unfold putAt
   by_cases e:k'=k
   · simp only [e,if_true]
     rw [e] at g1
     exact .cons g1 h2 h3 (r.over h2 h3)
   · simp only [e,if_false]
     exact .cons g1 g2 g3 (r.over h2 h3)
theorem EnK.put {k:K} {b:Addr} {u:Value} {v:V} {x:D} {xs:NEs K} {m:List (K × D)} (h:EnK a F G xs m) (h1:Den F G (.ref b) (a.toD k)) (h2:RelV v u) (h3:Den F G v x):EnK a F G (storedH xs k b u) (c9 m k x):=by
 unfold storedH c9
 rw [h.isSome k]
 split
 · exact h.over h2 h3
 · exact h.snoc h1 h2 h3
noncomputable def exK (a:KD K) (hd:a.dep<=7) (P:Program) (w:World) (m:List (K × D)):Ex where
 p:=λF G o p=>∃ xs,o=dNk a hd P w p xs/\EnK a F G xs m
 mono:=λe ⟨xs,h1,h2⟩=>⟨xs,h1,h2.mono e⟩
 ext:=λ⟨xs,h1,_⟩=>.inl ⟨_,h1⟩
end
end Hy
namespace Hy
open PySem PySem.Spec PyProof.Rows L2
open Ev (D Den ar KD NEs dNk dY ah fg jj jz)
section
variable {K:Type} [DecidableEq K] {a:KD K} {hd:a.dep<=7} {X:Cx} {C:Bool} {τ:List Sl} {x:D} {b e ix:Expr} {pos p q:Pos} {k:Nat} {N:Po} {rest:List Stmt} {m:List (K × D)} {key:K}
theorem lL:PE X (.Dict [] [] pos) (dE X.K C τ (.x (exK a hd X.prog X.w []))):=peW jj λσ H Q ⟨A,H₀,B,S,k⟩=>λp hp=>k (.ref p) _ [p] (ah hp _) (λb hb=>by rw [List.mem_singleton.mp hb]; exact ⟨hp,_,aL⟩) ⟨p,_,rfl,rfl,aL,[],rfl,.nil⟩
theorem Sta.dct {F:PySem.W.Frag} {P:Program} {w:World} {A:Addr->Prop} {H₀ H:Hp} {B:Nat->List Addr} {σ:L2.St} {i:Nat} (S:Sta F A H₀ τ B σ H) (hi:τ[i]?=some (.x (exK a hd P w m))):∃ d xs,(σ[i]?).join=some (.ref d)/\B i=[d]/\H d=some (dNk a hd P w d xs)/\EnK a F (Hy.hd H (own A B)) xs m:=by
 obtain ⟨d,o,h1,h2,h3,xs,rfl,h5⟩:=S.sl i _ hi
 exact ⟨d,xs,h2,h1,h3,h5⟩
theorem tm (i:Nat) {n:Str} (hu:X.A.units + 16 < cLine) (hi:τ[i]?=some (.x (exK a hd X.prog X.w m))) (hk:PE X ix (dE X.K false τ (.d (a.toD key)))) (hx:getM m key=some x) (hr:∀ H v,Den X.K H v (a.toD key)->∃ b,v=.ref b) (hs:jZ ix) (hN:X.N[i]?=some n:=by rfl)
   (hv:Vis X.env.scope n:=by first | exact Or.inl rfl | exact Or.inr (Or.inl rfl) | exact Or.inr (Or.inr rfl)) (hd1:(n == ("__debug__" : Str))=false:=by decide) (hcd:(n == ("__classdict__" : Str))=false:=by decide):PE X (.Subscript (.Name n p) ix pos) (dE X.K C τ (.d x)):=
 peW (fg (a:=a) (hd:=hd) hu (eg (i:=i) hN hv hd1 hcd) hk hs) λσ H Q q=>by
   obtain ⟨A,H₀,B,S,kk⟩:=dg q
   obtain ⟨d,xs,e1,e2,e3,e4⟩:=S.dct hi
   refine ⟨_,slot_of e1,aQ S λy H2 e5 dy=>?_⟩
   obtain ⟨b,rfl⟩:=hr _ _ dy
   have S2:=S.mono e5
   obtain ⟨d',xs',g1,g2,g3,g4⟩:=S2.dct hi
   rw [e1] at g1
   cases g1
   have:=g4.at key
   rw [hx] at this
   obtain ⟨pp,v,h1,h2,h3⟩:=this
   exact ⟨d,b,key,xs',pp,v,rfl,rfl,⟨g3,λz hz=>(g4.key z hz).mono aI⟩,dy.mono aI,h1,h2,kk v H2 e5 (h3.mono (ay (aq.refl _) λ_ z=>jH z))⟩
end
section
variable {K:PySem.W.Frag} {A:Addr->Prop} {H₀ H H':Hp} {τ:List Sl} {B:Nat->List Addr} {σ:L2.St}
theorem Sta.vJ (S:Sta K A H₀ τ B σ H) {i:Nat} {a:Addr} {E E':Ex} {o':HO} (hi:τ[i]?=some (.x E)) (hB:B i=[a]) (d:E'.p K (hd H (own A B)) o' a):Sta K A H₀ (τ.set i (.x E')) B σ (upd H a o'):=by
 have ha:own A B a:=.inr ⟨i,by rw [hB]; exact List.mem_singleton.mpr rfl⟩
 have ne:∀ b,b ≠ a->upd H a o' b=H b:=λb h=>aD h
 have sm:aq (hd H (own A B)) (hd (upd H a o') (own A B)):=λb o z=>by
   obtain ⟨z1,z2⟩:=aB.mp z
   exact aB.mpr ⟨z1,by rw [ne b (λe=>z1 (e ▸ ha))]; exact z2⟩
 have f0:H₀ a=none:=S.fr i a (by rw [hB]; exact List.mem_singleton.mpr rfl)
 have hs:aq H₀ (upd H a o'):=λb o z=>by rw [ne b (λe=>by rw [e,f0] at z; cases z)]; exact S.same b o z
 refine ⟨hs,by rw [List.length_set,S.len],λj t hj=>?_,S.fr,S.uq,S.ad,λj b hb=>?_⟩
 · by_cases ej:j=i
   · subst ej
     have hl:=(List.getElem?_eq_some_iff.mp hi).1
     rw [List.getElem?_set_self hl] at hj
     cases hj
     obtain ⟨a',o,e1,e2,_,_⟩:=S.sl j _ hi
     rw [hB] at e1
     cases e1
     exact ⟨a,o',hB,e2,aL,E'.mono sm d⟩
   · rw [List.getElem?_set_ne (λz=>ej z.symm)] at hj
     have off:∀ b ∈ B j,b ≠ a:=λb hb e=>ej (S.uq j i a (e ▸ hb) (by rw [hB]; exact List.mem_singleton.mpr rfl))
     have q:=S.sl j t hj
     cases t with
     | un=>exact q
     | d x=>obtain ⟨z,u,e,d⟩:=q; exact ⟨z,u,e,d.mono sm⟩
     | o zs=>
       obtain ⟨c,ws,z1,z2,z3,z4⟩:=q
       exact ⟨c,ws,z1,z2,by rw [ne c (off c (by rw [z1]; exact List.mem_singleton.mpr rfl))]; exact z3,z4.mono sm⟩
     | n t=>
       obtain ⟨z0,u,z1,z2⟩:=q
       exact ⟨z0,u,z1,z2.frame sm λb hb=>ne b (off b hb)⟩
     | x E=>
       obtain ⟨c,o,z1,z2,z3,z4⟩:=q
       exact ⟨c,o,z1,z2,by rw [ne c (off c (by rw [z1]; exact List.mem_singleton.mpr rfl))]; exact z3,E.mono sm z4⟩
 · by_cases e:b=a
   · subst e; exact ⟨_,aL⟩
   · rw [ne b e]; exact S.bd j b hb
end
section
variable {K:Type} [DecidableEq K] {a:KD K} {hd:a.dep<=7} {X:Cx} {C:Bool} {τ:List Sl} {x:D} {b e ix:Expr} {pos p q sp:Pos} {k:Nat} {N:Po} {rest:List Stmt} {m:List (K × D)} {key:K}
theorem lg (i:Nat) {n:Str} (hu:X.A.units + 16 < cLine) (hi:τ[i]?=some (.x (exK a hd X.prog X.w m))) (hk:PE X ix (dE X.K true τ (.d (a.toD key)))) (he:PE X e (dE X.K true τ (.d x))) (hl:m.length<=sizeLine) (hr:∀ H v,Den X.K H v (a.toD key)->∃ b,v=.ref b)
   (hn:PSs X rest (dS X.K (τ.set i (.x (exK a hd X.prog X.w (c9 m key x)))) N)) (hN:X.N[i]?=some n:=by rfl)
   (hv:Vis X.env.scope n:=by first | exact Or.inl rfl | exact Or.inr (Or.inl rfl) | exact Or.inr (Or.inr rfl)) (hd1:(n == ("__debug__" : Str))=false:=by decide) (hcd:(n == ("__classdict__" : Str))=false:=by decide)
   (hs:swapsWith e (some (.Subscript (.Name n p) ix sp)) pos.line X.env=pure false:=by rfl):PSs X (.Assign [.Subscript (.Name n p) ix sp] e pos :: rest) (dS X.K τ N):=
 bz (M:=(·=τ.set i (.x (exK a hd X.prog X.w (c9 m key x))))) (psW (jz (a:=a) (hd:=hd) hu (eg (i:=i) hN hv hd1 hcd) hk he hs) λD σ H ⟨A,H₀,B,S,Me⟩=>aQ S λv H1 e1 d1=>by
   have S1:=S.mono e1
   obtain ⟨d,xs,g1,_⟩:=S1.dct hi
   refine ⟨_,slot_of g1,aQ S1 λy H2 e2 dy=>?_⟩
   obtain ⟨b,rfl⟩:=hr _ _ dy
   have S2:=S1.mono e2
   obtain ⟨d',xs',h1,h2,h3,h4⟩:=S2.dct hi
   rw [g1] at h1
   cases h1
   have d1':=d1.mono (ay e2 λ_ z=>z)
   exact ⟨d,b,key,xs',rfl,rfl,⟨h3,λz hz=>(h4.key z hz).mono aI⟩,dy.mono aI,by rw [h4.length]; exact hl,λu hu=>Me.nx _ _ _ _ rfl (S2.vJ hi h2 ⟨_,rfl,h4.put dy hu d1'⟩)⟩) λ_ e=>e ▸ hn
end
end Hy
namespace Ev
open PySem PySem.Spec PyProof.Rows L2
section
variable {K:Type} [DecidableEq K] {a:KD K} {hd:a.dep<=7} {X:Cx} {o i e f:Expr} {pos apos cpos:Pos} {td ty tx tk tv:TE}
noncomputable def u0 (a:KD K) (hd:a.dep<=7) (P:Program) (w:World) (F:PySem.W.Frag) (tk tv:TE):TE:=λσ H Q=>∀ p,H p=none->tk σ (upd H p (dNk a hd P w p [])) λy H1=>tv σ H1 λv H2=>∃ b k,y=.ref b/\H2 p=some (dNk a hd P w p [])/\Den F H2 (.ref b) (a.toD k)/\∀ u,RelV v u->Q (.ref p) (upd H2 p (dNk a hd P w p (storedH [] k b u)))
theorem mC (hu:X.A.units + 16 < cLine) (hk:PE X e tk) (hv:PE X f tv):PE X (.Dict [some e] [f] pos) (u0 a hd X.prog X.w X.K tk tv):=λpins s σ H Q I h=>by
 refine wpAny_Dict_any rfl rfl (by simp) (show 1<=15 by decide) (pairTrees_cons_walk ?_)
 have I0:=I.laid (a:=s.heap.objs.size) (o:=dNk a hd X.prog X.w s.heap.objs.size []) (t':=s.toks) (h':=s.heap.push { cls:=.type "dict",data:=.dict #[] }) (λ_ _ q=>Heap.get?_push_of_some _ q) (Nat.le_refl _)
   ⟨⟨beq_eq_false_iff_ne.mpr (Ne.symm (Nat.ne_of_lt I.big)),_,#[],0,Heap.get?_push_size _ rfl,⟨rfl,rfl,rfl⟩,rfl,rfl,List.nodup_nil⟩,⟨_,Heap.get?_push_size _ rfl⟩,λa1 a2 ⟨z0,o,es,ep,z1,z2⟩ hk=>⟨z0,o,es,ep,hk o z1,z2⟩⟩
 refine thn (hk _ _ σ _ _ I0 (h _ (I.hok.fresh (Nat.le_refl _)))) λkv s1 ⟨y,H1,I1,ry,q1⟩=>thn (hv _ s1 σ H1 _ I1 q1) λvv s2 ⟨v,H2,I2,rv,b,k,ey,hp,g,q2⟩=>pairTrees_nil_walk ?_
 subst ey
 obtain rfl:kv=Value.ref b:=ry
 have D:dY a hd X.prog X.w X.K H2 s.heap.objs.size []:=⟨hp,λ_ z=>nomatch z⟩
 obtain ⟨hd',dd⟩:=oU I2 D
 unfold storeAll
 rw [List.forIn_cons]
 refine wpAny_bind (wpAny_bind (wpAny_dictSet_heap (hsz:=Nat.zero_le _) (show X.A.units + 8 < cLine by omega) (key_is I2 g) dd λh' dd' hs=>wpAny_pure ?_))
 dsimp only
 rw [List.forIn_nil]
 refine wpAny_pure ?_
 obtain ⟨q,es,ep,hq,h2,h3,h4,_,h5⟩:=dd'
 refine ⟨.ref s.heap.objs.size,_,jh (ob:=dNk a hd X.prog X.w s.heap.objs.size (storedH [] k b vv)) I2 (by rw [hp]; exact True.intro) hs ⟨q,hq⟩ ⟨⟨hd',q,es,ep,hq,h2,h3,h4,h5⟩,⟨q,hq⟩,λa1 a2 ⟨z0,o,es,ep,z1,z2⟩ hk=>⟨z0,o,es,ep,hk o z1,z2⟩⟩,rfl,q2 vv rv⟩
end
end Ev
namespace Hy
open PySem PySem.Spec PyProof.Rows L2
open Ev (D Den ar KD NEs dNk dY Bx ah fg mC)
section
variable {K:Type} [DecidableEq K] {a:KD K} {hd:a.dep<=7} {X:Cx} {C:Bool} {τ:List Sl} {x y:D} {b e f o ix:Expr} {pos p q apos cpos:Pos} {k:Nat} {N:Po} {rest:List Stmt} {m:List (K × D)} {key:K}
noncomputable def bxK (a:KD K) (hd:a.dep<=7) (P:Program) (w:World) (m:List (K × D)):Bx where
 p:=λF H d=>∃ xs,H d=some (dNk a hd P w d xs)/\EnK a F H xs m
 mono:=λe ⟨xs,h1,h2⟩=>⟨xs,e _ _ h1,h2.mono e⟩
 isd:=λ{_ _ d} ⟨xs,h1,_⟩=>⟨_,h1,λP w H' h z=>let ⟨_,o,_,_,z1,z2,_⟩:=z.1; ⟨o,z1,z2.1⟩⟩
noncomputable abbrev bxD (a:KD K) (hd:a.dep<=7) (P:Program) (w:World) (m:List (K × D)):D:=.box (bxK a hd P w m)
theorem Sta.fzX {F:PySem.W.Frag} {P:Program} {w:World} {A:Addr->Prop} {H₀ H:Hp} {B:Nat->List Addr} {σ:L2.St} {i:Nat} (S:Sta F A H₀ τ B σ H) (hi:τ[i]?=some (.x (exK a hd P w m))):Sta F A H₀ (τ.set i (.d (bxD a hd P w m))) (upB B i []) σ H:=
 S.less (λ_ z=>nomatch z) λG g hv=>by
   obtain ⟨d,xs,h1,h2,h3,h4⟩:=S.dct hi
   exact ⟨rfl,_,h1,.box ⟨xs,hv d _ (by rw [h2]; exact List.mem_singleton.mpr rfl) (λz=>nomatch z) h3,h4.mono g⟩⟩
theorem rW (i:Nat) (h:PSs X rest (dS X.K (τ.set i (.d (bxD a hd X.prog X.w m))) N)) (hi:τ[i]?=some (.x (exK a hd X.prog X.w m)):=by rfl):PSs X rest (dS X.K τ N):=nC h λD σ H ⟨A,H₀,B,S,Me⟩=>⟨A,H₀,_,S.fzX hi,Me⟩
theorem rY (h:PE X e (dE X.K C τ (.x (exK a hd X.prog X.w m)))):PE X e (dE X.K C τ (.d (bxD a hd X.prog X.w m))):=peW h λσ H Q q=>by
 obtain ⟨A,H₀,B,S,k⟩:=dg q
 refine ⟨A,H₀,B,S,λv H' bs e hf ⟨d,o,h1,h2,h3,xs,h4,h5⟩=>?_⟩
 cases h2
 subst h1 h4
 have vd:=S.vd (C:=C)
 have un:¬ vw C A B d:=λz=>by
   obtain ⟨_,q⟩:=vd d z
   rw [(hf d (List.mem_singleton.mpr rfl)).1] at q
   cases q
 exact k _ H' e (.box ⟨xs,aB.mpr ⟨un,h3⟩,h5.mono (ay (aq.refl _) λ_ z=>.inl z)⟩)
theorem la (hu:X.A.units + 16 < cLine) (hb:PE X b (dE X.K C τ (.d (bxD a hd X.prog X.w m)))) (hk:PE X ix (dE X.K C τ (.d (a.toD key)))) (hx:getM m key=some x) (hr:∀ H v,Den X.K H v (a.toD key)->∃ b,v=.ref b) (hs:jZ ix):PE X (.Subscript b ix pos) (dE X.K C τ (.d x)):=
 peW (fg (a:=a) (hd:=hd) hu hb hk hs) λσ H Q q=>by
   obtain ⟨A,H₀,B,S,kk⟩:=dg q
   refine aQ S λv H1 e1 d1=>aQ (S.mono e1) λy H2 e2 dy=>?_
   obtain ⟨b',rfl⟩:=hr _ _ dy
   cases d1.mono (ay e2 λ_ z=>z) with
   | box h=>
     obtain ⟨xs,g3,g4⟩:=h
     have:=g4.at key
     rw [hx] at this
     obtain ⟨pp,v,h1,h2,h3⟩:=this
     exact ⟨_,b',key,xs,pp,v,rfl,rfl,⟨aI _ _ g3,λz hz=>(g4.key z hz).mono aI⟩,dy.mono aI,h1,h2,kk v H2 (e1.trans e2) h3⟩
theorem oI (hu:X.A.units + 16 < cLine) (hk:PE X e (dE X.K C τ (.d (a.toD key)))) (hv:PE X f (dE X.K C τ (.d x))) (hr:∀ H v,Den X.K H v (a.toD key)->∃ b,v=.ref b):PE X (.Dict [some e] [f] pos) (dE X.K C τ (.x (exK a hd X.prog X.w [(key,x)]))):=
 peW (mC (a:=a) (hd:=hd) hu hk hv) λσ H Q ⟨A,H₀,B,S,kk⟩=>λp hp=>by
   have e0:=ah hp (dNk a hd X.prog X.w p [])
   have f0:Fr H (upd H p (dNk a hd X.prog X.w p [])) [p]:=λb hb=>by rw [List.mem_singleton.mp hb]; exact ⟨hp,_,aL⟩
   have S1:=S.hide e0 f0
   refine aQ S1 λy H2 e2 dy=>aQ (S1.mono e2) λv H3 e3 dv=>?_
   obtain ⟨b',rfl⟩:=hr _ _ dy
   have e03:=e2.trans e3
   have hp3:=e03 _ _ (aL (H:=H) (a:=p) (o:=dNk a hd X.prog X.w p []))
   have dy3:=dy.mono (ay e3 λ_ z=>z)
   refine ⟨b',key,rfl,hp3,dy3.mono aI,λu hu=>?_⟩
   have sm:aq (Hy.hd H3 (vw C (λb=>A b\/b ∈ [p]) B)) (Hy.hd (upd H3 p (dNk a hd X.prog X.w p (storedH [] key b' u))) λb=>vw C A B b\/b ∈ [p]):=λb o z=>by
     obtain ⟨z1,z2⟩:=aB.mp z
     have nh:¬ (vw C A B b\/b ∈ [p]):=λy=>z1 (qP y)
     exact aB.mpr ⟨nh,by rw [aD (λq=>nh (.inr (List.mem_singleton.mpr q)))]; exact z2⟩
   have hs:aq H (upd H3 p (dNk a hd X.prog X.w p (storedH [] key b' u))):=λb o z=>by
     have ne:b ≠ p:=λq=>by rw [q,hp] at z; cases z
     rw [aD ne]
     exact e03 _ _ (e0 _ _ z)
   exact kk (.ref p) _ [p] hs (λb hb=>by rw [List.mem_singleton.mp hb]; exact ⟨hp,_,aL⟩) ⟨p,_,rfl,rfl,aL,_,rfl,(EnK.nil.put dy3 hu dv).mono sm⟩
end
end Hy
namespace Ev
open PySem PySem.Spec PyProof.Rows L2
open PySem.Builtin.Range (rangeFitsLong rangeSize)
section
variable {prog:Program} {w:World} {A:Around} {E:Value->Shared->Prop} {s:Shared}
end
section
variable {X:Cx} {tg:Expr}
end
end Ev
namespace Ev
open PySem PySem.Spec PyProof.Rows L2
section
variable {X:Cx} {tg:Expr}
end
end Ev
namespace Hy
open PySem PySem.Spec PyProof.Rows L2
open Ev (D Den ar Bx ah)
section
variable {K:PySem.W.Frag} {A:Addr->Prop} {H₀ H:Hp} {τ:List Sl} {B:Nat->List Addr} {σ:L2.St} {m:List (Int × Int)} {i:Nat}
end
section
variable {X:Cx} {C:Bool} {τ:List Sl} {x y:D} {a b e f o ix tg:Expr} {pos p q apos cpos sp:Pos} {k:Nat} {N:Po} {rest:List Stmt} {m:List (Int × Int)} {key v n:Int}
theorem jy {n:Str}:jZ (.Name n p):=λ_ _=>rfl
theorem pS {op:Operator}:jZ (.BinOp a op b p):=λ_ _=>rfl
end
end Hy
namespace Hy
open PySem PySem.Spec PyProof.Rows L2
open Ev (D Den ar ah aC d9 cC PTs bU cW)
theorem iJ {K:PySem.W.Frag} {G:Hp}:∀ {vs:List V} {ns:List Int},ar K G vs (ns.map .int)->vs=ns.map V.int
 | _,[],.nil=>rfl
 | _,n :: ns,.cons h r=>by cases h; rw [iJ r]; rfl
section
variable {X:Cx}
end
section
variable {X:Cx} {C:Bool} {τ:List Sl} {e it:Expr} {pos p q p2 pos2 tp ip vp rp ap cp p1:Pos} {k:Nat} {N:Po} {rest:List Stmt} {scope:Scope}
end
end Hy
namespace Hy
open PySem PySem.Spec PyProof.Rows L2
open Ev (D Den ar ah)
section
variable {X:Cx} {τ:List Sl} {a b:Expr} {pos p q:Pos} {N:Po} {rest:List Stmt}
end
noncomputable def fS (a:Int) (as:List Int):Int:=as.foldl (λm x=>if x > m then x else m) a
theorem mG:∀ (as:List Int) (a:Int),fS a as ∈ a :: as/\∀ x ∈ a :: as,x<=fS a as
 | [],a=>⟨List.mem_cons_self ..,λx hx=>by rw [List.mem_singleton.mp hx]; exact Int.le_refl _⟩
 | b :: as,a=>by
   obtain ⟨h1,h2⟩:=mG as (if b > a then b else a)
   have e:fS a (b :: as)=fS (if b > a then b else a) as:=rfl
   rw [e]
   have h3:=h2 _ (List.mem_cons_self ..)
   have h4:a<=(if b > a then b else a)/\b<=(if b > a then b else a):=by split <;> omega
   refine ⟨?_,λx hx=>?_⟩
   · rcases List.mem_cons.mp h1 with z | z
     · rw [z]
       split
       · exact List.mem_cons_of_mem _ (List.mem_cons_self ..)
       · exact List.mem_cons_self ..
     · exact List.mem_cons_of_mem _ (List.mem_cons_of_mem _ z)
   · rcases List.mem_cons.mp hx with z | z
     · rw [z]; exact Int.le_trans h4.1 h3
     · rcases List.mem_cons.mp z with z | z
       · rw [z]; exact Int.le_trans h4.2 h3
       · exact h2 x (List.mem_cons_of_mem _ z)
theorem qS {a M:Int} {as:List Int} (h1:M ∈ a :: as) (h2:∀ x ∈ a :: as,x<=M):fS a as=M:=by
 obtain ⟨z1,z2⟩:=mG as a
 exact Int.le_antisymm (h2 _ z1) (z2 _ h1)
theorem gJ:∀ {us:List Value} {ns:List Int},Vals (ns.map V.int) us->∃ xs:List (Int × Tok),us=xs.map (λp=>Value.int p.1 p.2)/\xs.map (·.1)=ns
 | [],[],_=>⟨[],rfl,rfl⟩
 | [],_ :: _,h=>nomatch h
 | _ :: _,[],h=>nomatch h
 | u :: us,n :: ns,h=>by
   cases h with
   | cons h1 h2=>
     obtain ⟨t,rfl⟩:=h1
     obtain ⟨xs,rfl,rfl⟩:=gJ h2
     exact ⟨(n,t) :: xs,rfl,rfl⟩
section
variable {X:Cx}
theorem n9 (hc:X.calm=true):cF X (.builtin "max") (λxs H Q=>∃ p a as,xs=[.ref p]/\SqL X.K H p ((a :: as).map V.int)/\Q (.int (fS a as)) H):=by
 intro pins s σ H vs us Q I r q
 obtain ⟨p,a,as,rfl,h1,q⟩:=q
 obtain ⟨u,rfl,ru⟩:=vals1 r
 cases (show u=Value.ref _ from ru)
 obtain ⟨its,rv,p,hz⟩:=I.list h1
 obtain ⟨xs,rfl,hx⟩:=gJ (ns:=a :: as) rv
 have hlen:0 < xs.length:=by have:=congrArg List.length hx; simp only [List.length_map,List.length_cons] at this; omega
 refine max_intList (xs:=xs.toArray) (I.ok.hd hc) (by have:=p.isList; simpa [intItems] using this) (by simpa using hlen) λv h' tk hv k=>?_
 obtain ⟨g1,g2⟩:=argBest_gt (numAt xs.toArray) (xs.toArray.size - 1)
 rw [List.size_toArray] at g1 g2 hv
 revert hv g1 g2
 generalize argBest (λi j=>decide (numAt xs.toArray i > numAt xs.toArray j)) (xs.length - 1)=b
 intro hv g1 g2
 have nat:∀ i (w:Int × Tok),xs[i]?=some w->numAt xs.toArray i=w.1:=λi w e=>by simp [numAt,e]
 obtain ⟨w,hw⟩:∃ w,xs[b]?=some w:=⟨xs[b]'(by omega),List.getElem?_eq_getElem _⟩
 have ev:v=Value.int w.1 w.2:=by
   simp only [intItems,Array.getElem?_map,List.getElem?_toArray,hw,Option.map_some,Option.some.injEq] at hv
   exact hv.symm
 have em:fS a as=w.1:=by
   refine qS (by rw [<- hx]; exact List.mem_map.mpr ⟨w,List.mem_of_getElem? hw,rfl⟩) λx hx'=>?_
   rw [<- hx] at hx'
   obtain ⟨y,hy,rfl⟩:=List.mem_map.mp hx'
   obtain ⟨i,hi,e⟩:=List.getElem_of_mem hy
   have:=g2 i (by omega)
   rw [nat i y (by rw [List.getElem?_eq_getElem hi,e]),nat b w hw] at this
   exact this
 exact ⟨.int (fS a as),H,I.kept k,⟨w.2,by rw [em,ev]⟩,q⟩
theorem t6 (hc:X.calm=true) (a:Int) (as:List Int) {xs:List D} (hx:xs=(a :: as).map .int):fq X (.builtin "max") [.lst xs] (.d (.int (fS a as))):=⟨_,n9 hc,λM vs H Q _ d q=>by
 subst hx
 cases d with
 | cons d r=>
   cases r
   cases d with
   | lst h1 r=>
     have e:=iJ r
     subst e
     exact ⟨_,a,as,rfl,Ev.aG aI h1,q _ H [] (aq.refl _) cu (eM .int)⟩⟩
end
end Hy
namespace Ev
open PySem PySem.Spec PyProof.Rows L2
section
variable {X:Cx} {o e f g:Expr} {pos apos cpos:Pos} {td te tf tg:TE}
end
section
variable {X:Cx} {tg l:Expr} {tl:TE}
end
end Ev
namespace Hy
open PySem PySem.Spec PyProof.Rows L2
open Ev (D Den ar ah)
section
variable {X:Cx} {C:Bool} {τ:List Sl} {o e f g a b:Expr} {pos apos cpos p p2:Pos} {z w v:Str} {k:Nat} {xs:List D}
end
end Hy
namespace Tx
open PySem
noncomputable def inj (c:Nat):List (List Nat)->List Nat
 | []=>[]
 | [a]=>a
 | a :: b :: r=>a++c :: inj c (b :: r)
noncomputable def cs (x:Str):List Nat:=x.cps.toList
noncomputable def ch (c:Nat):Str:=⟨#[c]⟩
end Tx
namespace Hx
open PySem PySem.Spec PyProof.Rows L2
section
variable {X:Cx} {body:List Stmt} {h0:ExceptHandler} {hs:List ExceptHandler} {pos:Pos} {t:TS}
end
end Hx
namespace Hy
open PySem PySem.Spec PyProof.Rows L2
end Hy
namespace Hy
open PySem PySem.Spec PyProof.Rows L2
open Ev (D Den ar ah aM aG)
section
variable {X:Cx} {C:Bool} {τ:List Sl} {a b e e1 e2 e3 o:Expr} {pos p p2 tp:Pos} {k:Nat} {x x1 x2 x3:D} {N:Po} {rest:List Stmt}
theorem oB {lo hi:Option Expr} {l u:Option Int} {xs:List D} (ha:PE X a (dE X.K C τ (.d (.tup xs)))) (hl:PO X lo (dO X.K τ l)) (hu:PO X hi (dO X.K τ u)) (hw:¬ (HT.sIx xs.length 0 l=0/\HT.sIx xs.length xs.length u=xs.length)):PE X (.Subscript a (.Slice lo hi none p2) pos) (dE X.K C τ (.d (.tup (cutD xs l u)))):=
 peW (kz sJ ha hl hu) λσ H Q q=>by
   obtain ⟨A,H₀,B,S,k⟩:=dg q
   exact aQ S λv H1 e1 d1=>⟨A,H₀,B,S.mono e1,λH2 e2=>⟨A,H₀,B,(S.mono e1).mono e2,λH3 e3=>by
     cases d1 with
     | @tup _ ws _ h r=>
       have h:=aM (e2.trans e3) (aM aI h)
       have r:=r.mono (ay (e2.trans e3) λ_ z=>z)
       refine ⟨_,_,rfl,h,by rw [r.length]; exact hw,λp hp=>?_⟩
       have r':ar X.K (hd H3 (vw C A B)) (gq ws l u) (cutD xs l u):=by
         unfold gq cutD
         rw [r.length]
         exact (r.drop _).take _
       have hM:=(((S.mono e1).mono e2).mono e3).vd (C:=C)
       have e4:=ah hp (.tup (gq ws l u))
       exact k _ _ ((e1.trans (e2.trans e3)).trans e4) (.tup (SqT.of (hJ hM hp)) (r'.mono (ay e4 λ_ z=>z)))⟩⟩
end
section
variable {X:Cx} {τ τ1 τ2:List Sl} {x y z:D} {a b e o ix:Expr} {es:List Expr} {pos p q:Pos} {l:Nat} {s:Sl} {N:Po} {st:Stmt} {body rest:List Stmt} {i j k:Nat} {t c:Nd} {pt:List Nat} {xs:List Nd} {m:Nat} {ds:List D}
theorem ej (h:PE X e (dE X.K false τ (.d x))):PE X e (dEJ X.K τ i j k x):=peW h λσ H Q ⟨A,H₀,B,S,_,q⟩=>aQ S λv H' e d=>q v H' e d
end
section
variable {X:Cx} {τ τ1 τ2:List Sl} {x y z:D} {a b e o ix:Expr} {pos p q:Pos} {l:Nat} {N:Po} {st:Stmt} {body rest:List Stmt} {i j k:Nat} {t c:Nd} {pt:List Nat} {ds:List D}
end
section
variable {K:PySem.W.Frag} {G H:Hp}
end
section
variable {X:Cx} {τ:List Sl} {ia ia2 ib ib2:Expr} {N:Po} {rest:List Stmt} {xs:List Nd} {xa xb:Nd}
end
section
variable {X:Cx} {τ:List Sl} {e2:Expr} {N:Po} {rest:List Stmt} {pos p tp:Pos} {x2:D} {t:Nd}
end
section
variable {P:Program} {w:World} {K:PySem.W.Frag} {mg:Str->Option Value} {base:Heap}
end
section
variable {X:Cx} {τ:List Sl} {es:List Expr} {pos p q pr:Pos} {k:Nat} {s:Sl} {ds:List D} {N:Po} {rest:List Stmt}
end
end Hy
namespace L2
open PySem PySem.Spec PyProof.Rows
end L2
namespace Hy
open PySem PySem.Spec PyProof.Rows L2
open Ev (D Den ar ah aM aG aC d9 cC PTs bU cW)
section
variable {P:Program} {w:World} {K:PySem.W.Frag} {mg:Str->Option Value} {base:Heap}
end
section
variable {X:Cx} {τ:List Sl} {es:List Expr} {pos p q pr:Pos} {k:Nat} {s:Sl} {ds xs:List D} {N:Po} {rest:List Stmt} {elt it:Expr} {scope:Scope}
end
end Hy
namespace Hy
open PySem PySem.Spec PyProof.Rows L2
open Ev (D Den ar ah)
section
variable {X:Cx} {C:Bool} {τ:List Sl} {e o:Expr} {k c i:Nat} {N:Po} {rest body:List Stmt} {cl:Nat->Addr} {n:Str} {fw S:Addr} {p p' q psm pr ph pos pc pq:Pos} {t:Nd} {pt:List Nat} {xs:List Nd}
end
end Hy
namespace Hy
open PySem PySem.Spec PyProof.Rows L2
open Ev (D Den ar ah aM aG Ite tG jn)
section
variable {X:Cx} {τ:List Sl} {k:Nat} {N:Po} {rest ret:List Stmt} {c:Expr} {ns:List Nd} {xs:List D} {p q ip tp pos bp cp pb:Pos}
end
end Hy
namespace Hy
open PySem PySem.Spec PyProof.Rows L2
open Ev (D Den ar aG lh nL cln dep nZ)
section
variable {X:Cx} {k:Nat} {x:D} {xs:List D}
end
end Hy
namespace Hy
open PySem PySem.Spec PyProof.Rows L2
open Ev (D Den ar ah aM aG)
section
variable {K:PySem.W.Frag} {A:Addr->Prop} {H₀ H:Hp} {τ:List Sl} {B:Nat->List Addr} {σ:L2.St}
end
section
variable {X:Cx} {τ:List Sl} {N:Po} {rest:List Stmt} {xs:List Nd} {pos p p2:Pos} {s:Sl} {c:Nd}
end
end Hy
namespace Hy
open PySem PySem.Spec PyProof.Rows L2
open Ev (D Den ar aF aE ah aM aG lh nL cln dep nZ)
section
variable {X:Cx} {k:Nat} {x:D} {xs:List D}
end
section
variable {X:Cx} {C:Bool} {τ:List Sl} {x:D} {e o:Expr} {pos:Pos} {N:Po} {rest:List Stmt}
end
end Hy
namespace Hy
open PySem PySem.Spec PyProof.Rows L2
open Ev (D Den ar aG lh)
section
variable {X:Cx}
theorem qh:OpR X (compareOp .IsNot) (λx y H Q=>∃ a b:Bool,x=.bl a/\y=.bl b/\Q (.bl (!decide (a=b))) H):=by
 intro pins s σ H x y v u Q I rx ry h
 obtain ⟨a,b,rfl,rfl,q⟩:=h
 cases rx
 cases ry
 exact wpAny_isNot_plain rfl (aK I q (by cases a <;> cases b <;> rfl))
theorem uv {a b:Bool}:cD X (compareOp .IsNot) (.bl a) (.bl b) (.bl (!decide (a=b))):=⟨_,qh,λ_ v w H Q _ d1 d2 k=>by
 cases d1
 cases d2
 exact ⟨a,b,rfl,rfl,k _ H (aq.refl _) .bl⟩⟩
end
end Hy
namespace Ev
open PySem PySem.Spec PyProof.Rows L2
section
variable {prog:Program} {w:World} {A:Around} {E:Value->Shared->Prop} {s:Shared} {d it:Addr} {o:Obj} {es:Array DictEntry} {ep i:Nat}
theorem qZ {Q:Value->Shared->Prop} (hd:(d == sysModules)=false) (ho:s.heap.get? d=some o) (hx:o.ExactDict) (hdat:o.data=.dict es ep)
   (hQ:Q (.ref s.heap.objs.size) { s with heap:=s.heap.push { cls:=.type "dict_keyiterator",data:=.fields #[.ref d,.int 0 0,.int es.size 0,.int ep 0] } }):wpAny (model prog w) A (pyIter (.ref d)) Q E s:=by
 have hT:s.TypeIs (.ref d) "dict":=⟨o,ho,hx.1⟩
 refine wpAny_pyIter_slot hT PySem.F.slot_dict_iter (wpAny_call_entry PySem.F.slot_dict_iter hT PySem.F.entry_dict_iter ?_ (PySem.F.args_dict_iter_1 _))
 unfold Builtin.«dict.__iter__»
 refine wpAny_bind ?_
 unfold Builtin.Dict.dictSlotNone
 refine wpAny_bind (wpAny_notOrdered_dict hT (wpAny_pure ?_))
 show wpAny _ _ (Builtin.Dict.showsAll d >>= _) _ _ s
 unfold Builtin.Dict.showsAll
 rw [if_neg (by rw [hd]; exact Bool.false_ne_true)]
 refine wpAny_bind (wpAny_pure (wpAny_bind (wpAny_dictEntries ho hdat (wpAny_bind (wpAny_dictEpoch ho hdat ?_)))))
 refine wpAny_bind (wpAny_newObj_type (wpAny_pure ⟨_,rfl,"dict_keyiterator",_,⟨_,Heap.get?_push_size _ rfl,rfl⟩,PySem.F.slot_dict_keyiterator_next.lookup,?_⟩))
 simpa [rawInt] using hQ
theorem oW:Builtin.Dict_items.ownsTuple "dict_keyiterator" = false:=by decide
theorem qw {Q:Option Value->Shared->Prop} (hit:s.heap.IsKeyIter it d i es.size ep) (ho:s.heap.get? d=some o) (hdat:o.data=.dict es ep) (hlt:i < es.size)
   (hQ:∀ h',h'.IsKeyIter it d (i + 1) es.size ep->Heap.SameBut it s.heap h'->Q (some es[i].key) { s with heap:=h' }):wpAny (model prog w) A (pyNext (.ref it)) Q E s:=by
 obtain ⟨oi,hoi,hc,hdi⟩:=id hit
 unfold pyNext
 refine wpAny_bind (wpAny_attempt (wpAny_callSpecial?_slot (name:=Str.ofString "__next__") hit.typeIs PySem.F.slot_dict_keyiterator_next (wpAny_call_entry PySem.F.slot_dict_keyiterator_next hit.typeIs PySem.F.entry_dict_keyiterator_next ?_ (PySem.F.args_dict_keyiterator_next_1 _))))
 refine wpAny_bind (wpAny_pure (wpAny_bind (wpAny_bind ?_)))
 first | refine wpAny_bind (wpAny_typeNameOfWhole_keyiter hit.typeIs (wpAny_pure ?_)) | refine wpAny_bind (wpAny_typeNameOf_keyiter hit.typeIs (wpAny_pure ?_))
 refine wpAny_bind (wpAny_fieldsOf hoi hdi ?_)
 simp only [oW,Bool.false_eq_true,if_false]
 show wpAny _ _ (if (Value.ref d == Value.none)=true then _ else _) _ _ s
 rw [if_neg (show ¬ ((Value.ref d == Value.none)=true) from Bool.false_ne_true)]
 refine wpAny_bind (wpAny_pure (wpAny_bind (wpAny_dictEntries ho hdat ?_)))
 rw [if_neg (by simp)]
 refine wpAny_bind (wpAny_pure (wpAny_bind (wpAny_dictEpoch ho hdat ?_)))
 rw [if_neg (by simp)]
 refine wpAny_pure ?_
 simp only [show ¬ ((i:Int) < 0) from by omega,if_false,Int.toNat_natCast,Array.getElem?_eq_getElem hlt]
 refine wpAny_bind ?_
 first | refine wpAny_bind (wpAny_typeNameOfWhole_keyiter hit.typeIs (wpAny_pure ?_)) | refine wpAny_bind (wpAny_typeNameOf_keyiter hit.typeIs (wpAny_pure ?_))
 refine wpAny_bind (wpAny_isOneOf_keyiter hit.typeIs ?_)
 show wpAny _ _ (setField (.ref it) 1 (rawInt ((i:Int) + 1)) >>= _) _ _ s
 refine wpAny_bind (wpAny_setField hoi hdi (by simp) ?_)
 have hit':(s.heap.update it (Obj.mapFields (·.setIfInBounds 1 (rawInt ((i:Int) + 1))))).IsKeyIter it d (i + 1) es.size ep:=
   ⟨_,Heap.get?_update_self _ hoi (Obj.isFreed_of_fields (Obj.data_mapFields hdi _)),(Obj.cls_mapFields ..).trans hc,by rw [Obj.data_mapFields hdi]; simp [rawInt]⟩
 refine wpAny_bind (wpAny_holding ?_)
 refine wpAny_bind (wpAny_isOneOf_keyiter (s:={ s with heap:=s.heap.update it (Obj.mapFields (·.setIfInBounds 1 (rawInt ((i:Int) + 1)))) }) hit'.typeIs ?_)
 show wpAny _ _ (pure es[i].key) _ _ _
 exact wpAny_pure (wpAny_pure ⟨_,rfl,wpAny_pure (hQ _ hit' (Heap.SameBut.update ..))⟩)
theorem uC {Q:Option Value->Shared->Prop} (hh:A.handled=none) (hit:s.heap.IsKeyIter it d i es.size ep) (ho:s.heap.get? d=some o) (hdat:o.data=.dict es ep) (hge:es.size<=i)
   (hQ:∀ h',Heap.ExtBut it s.heap h'->Q none { s with heap:=h' }):wpAny (model prog w) A (pyNext (.ref it)) Q E s:=by
 obtain ⟨oi,hoi,hc,hdi⟩:=id hit
 unfold pyNext
 refine wpAny_bind (wpAny_attempt (wpAny_callSpecial?_slot (name:=Str.ofString "__next__") hit.typeIs PySem.F.slot_dict_keyiterator_next (wpAny_call_entry PySem.F.slot_dict_keyiterator_next hit.typeIs PySem.F.entry_dict_keyiterator_next ?_ (PySem.F.args_dict_keyiterator_next_1 _))))
 refine wpAny_bind (wpAny_pure (wpAny_bind (wpAny_bind ?_)))
 first | refine wpAny_bind (wpAny_typeNameOfWhole_keyiter hit.typeIs (wpAny_pure ?_)) | refine wpAny_bind (wpAny_typeNameOf_keyiter hit.typeIs (wpAny_pure ?_))
 refine wpAny_bind (wpAny_fieldsOf hoi hdi ?_)
 simp only [oW,Bool.false_eq_true,if_false]
 show wpAny _ _ (if (Value.ref d == Value.none)=true then _ else _) _ _ s
 rw [if_neg (show ¬ ((Value.ref d == Value.none)=true) from Bool.false_ne_true)]
 refine wpAny_bind (wpAny_pure (wpAny_bind (wpAny_dictEntries ho hdat ?_)))
 rw [if_neg (by simp)]
 refine wpAny_bind (wpAny_pure (wpAny_bind (wpAny_dictEpoch ho hdat ?_)))
 rw [if_neg (by simp)]
 refine wpAny_pure ?_
 simp only [show ¬ ((i:Int) < 0) from by omega,if_false,Int.toNat_natCast,Array.getElem?_eq_none hge]
 refine wpAny_bind ?_
 first | refine wpAny_bind (wpAny_typeNameOfWhole_keyiter hit.typeIs (wpAny_pure ?_)) | refine wpAny_bind (wpAny_typeNameOf_keyiter hit.typeIs (wpAny_pure ?_))
 show wpAny _ _ (setField (.ref it) 0 .none >>= _) _ _ s
 refine wpAny_bind (wpAny_setField hoi hdi (by simp) ?_)
 show wpAny _ _ (newExc (.type "StopIteration") [] >>= _) _ _ _
 refine wpAny_bind ?_
 simp only [newExc,newTuple]
 refine wpAny_bind (wpAny_newObj_type ?_ (by size_fits))
 refine wpAny_bind (m:=firstArgMember _ _) (wpAny_of_eq (a:=Value.none) (by first | rfl | (simp only [firstArgMember]; rfl)) ?_)
 refine wpAny_newObj_type ?_ (by size_fits)
 simp only [raiseNew]
 refine wpAny_bind (wpAny_handled ?_)
 rw [show A.in1.handled=none from hh]
 refine wpAny_bind (wpAny_pure (wpAny_throw ?_))
 refine wpAny_bind (wpAny_isInstance (T:="StopIteration") (b:=true) ⟨_,Heap.get?_push_size _ rfl,rfl⟩ isSubtype_stop ?_)
 exact wpAny_pure (hQ _ (((Heap.SameBut.update ..).extBut.push _).push _))
end
section
variable {K:Type} [DecidableEq K] {a:KD K} {hd:a.dep<=7} {X:Cx} {pins:List (Addr × Obj)} {σ:L2.St} {H:Hp} {s:Shared} {d:Addr} {xs:NEs K} {ob:Obj}
theorem pM (I:Inv X pins σ H s) (h:H d=some (.frz ob (dNk a hd X.prog X.w d xs))):(d == sysModules)=false/\∃ es ep,s.heap.get? d=some ob/\ob.ExactDict/\ob.data=.dict es ep/\es.toList=xs.map (entryOfKey (kd a hd X.prog X.w))/\(xs.map (·.1)).Nodup:=by
 obtain ⟨e,⟨h0,o,es,ep,h1,h2⟩,_⟩:=(show bw X.prog X.w H s.heap d (.frz ob (dNk a hd X.prog X.w d xs)) from I.hok d _ h)
 rw [e] at h1
 cases h1
 exact ⟨h0,es,ep,e,h2⟩
noncomputable def Itw (a:KD K) (hd:a.dep<=7) (P:Program) (w:World) (d:Addr) (ob:Obj) (xs:NEs K):L2.It:=
 ⟨λi H=>i < xs.length/\H d=some (.frz ob (dNk a hd P w d xs)),λi H x H'=>H'=H/\∃ p,xs[i]?=some p/\x=.ref p.2.1,λi H=>xs.length<=i/\H d=some (.frz ob (dNk a hd P w d xs))⟩
theorem q9 {P:Program} {w:World} {F:PySem.W.Frag} {tg:Expr} (it:Addr) (es:Array DictEntry) (ep:Nat) (hdat:ob.data=.dict es ep) :
   Turn P w F false tg (Itw a hd P w d ob xs) [it] it (λi h=>i<=xs.length/\h.IsKeyIter it d i xs.length ep) where
 mem:=by simp
 obj:=λi h st b hb=>by
   have e:b=it:=by simpa using hb
   subst e
   obtain ⟨o,e,c,d⟩:=st.2
   exact ⟨o,e,λv z=>by rw [d] at z; cases z⟩
 keep:=λi h h' st k=>⟨st.1,st.2.at λo e=>k it (by simp) o e⟩
 item:=by
   intro X hP hw hK hc i pins s σ H E I hf st hg
   subst hP hw hK
   obtain ⟨hi,ha⟩:=hg
   obtain ⟨f0,f1,f2,f3,f4,f5⟩:=hf it (by simp)
   obtain ⟨_,es',ep',g1,_,g3,g4,_⟩:=pM I ha
   rw [hdat] at g3
   injection g3 with z1 z2
   subst z1 z2
   have hl:es.size=xs.length:=by rw [<- Array.length_toList,g4,List.length_map]
   have st2:=st.2
   rw [<- hl] at st2
   have hie:i < es.size:=by omega
   have hk:es[i].key=.ref (xs[i]).2.1:=by
     have e:es.toList[i]?=some (entryOfKey (kd a hd X.prog X.w) xs[i]):=by rw [g4,List.getElem?_map,List.getElem?_eq_getElem hi]; rfl
     rw [Array.getElem?_toList,Array.getElem?_eq_getElem hie] at e
     rw [Option.some.inj e]
     rfl
   refine qw st2 g1 hdat hie λh' st' sb=>?_
   have I1:Inv X pins σ H { s with heap:=h' }:=I.turned (t':=s.toks) (λb o hb e=>(sb.2 b hb).trans e) f0 f1 f3 f4 f5
   obtain ⟨o',e,c,dd⟩:=id st'
   rw [hk]
   refine ⟨_,rfl,mR (s:={ s with heap:=h' }) e c dd (by decide) ⟨.ref (xs[i]).2.1,H,I1,rfl,⟨rfl,_,List.getElem?_eq_getElem hi,rfl⟩,⟨hi,by rw [<- hl]; exact st'⟩,λb hb=>(hf b hb).1⟩⟩
 done:=by
   intro X hP hw hK hc i pins s σ H E I hf st hg
   subst hP hw hK
   obtain ⟨hi,ha⟩:=hg
   obtain ⟨f0,f1,f2,f3,f4,f5⟩:=hf it (by simp)
   obtain ⟨_,es',ep',g1,_,g3,g4,_⟩:=pM I ha
   rw [hdat] at g3
   injection g3 with z1 z2
   subst z1 z2
   have hl:es.size=xs.length:=by rw [<- Array.length_toList,g4,List.length_map]
   have st2:=st.2
   rw [<- hl] at st2
   exact uC (I.ok.hd hc.calm) st2 g1 hdat (by omega) λh' eb=>⟨rfl,I.turned (t':=s.toks) (λb o hb e=>eb b o hb e) f0 f1 f3 f4 f5⟩
 self:=λ_ _ _ _ _ st h=>wpAny_pyIter_keyiter st.2 h
end
section
variable {K:Type} [DecidableEq K] {a:KD K} {hd:a.dep<=7} {X:Cx} {tg l o i:Expr} {tl td ty:TE} {pos:Pos}
noncomputable def ud (a:KD K) (hd:a.dep<=7) (P:Program) (w:World) (tl:TE):TI:=λσ H R=>tl σ H λx H1=>∃ d ob xs,x=.ref d/\H1 d=some (.frz ob (dNk a hd P w d xs))/\R (Itw a hd P w d ob xs) H1
theorem j4 (hc:X.calm=true) (hl:PE X l tl):PI X tg l (ud a hd X.prog X.w tl):=by
 intro pins s σ H R I h
 refine thn (hl pins s σ H _ I h) λu s1 ⟨x,H1,I1,r1,d,ob,xs,ex,ha,q⟩=>?_
 subst ex
 cases r1
 obtain ⟨h0,es,ep,g1,g2,g3,g4,_⟩:=pM I1 ha
 have hl:es.size=xs.length:=by rw [<- Array.length_toList,g4,List.length_map]
 refine qZ h0 g1 g2 g3 ?_
 refine ⟨false,s1.heap.objs.size,[s1.heap.objs.size],_,_,H1,rfl,I1.kept (t':=s1.toks) λb o e=>Heap.get?_push_of_some _ e,.inl hc,q9 (xs:=xs) _ es ep g3,⟨Nat.zero_le _,?_⟩,λb hb=>?_,q⟩
 · rw [<- hl]
   exact ⟨_,Heap.get?_push_size _ rfl,rfl,rfl⟩
 · have e:b=s1.heap.objs.size:=by simpa using hb
   subst e
   exact I1.j8 (Nat.le_refl _) (I1.hok.fresh (Nat.le_refl _))
noncomputable def uO (a:KD K) (hd:a.dep<=7) (P:Program) (w:World) (F:PySem.W.Frag) (td ty:TE):TE:=λσ H Q=>td σ H λx H1=>ty σ H1 λy H2=>∃ d ob b k xs p v,x=.ref d/\y=.ref b/\H2 d=some (.frz ob (dNk a hd P w d xs))/\(∀ x ∈ xs,Den F H2 (.ref x.2.1) (a.toD x.1))/\Den F H2 (.ref b) (a.toD k)/\atKey xs k=some p/\RelV v p.2/\Q v H2
theorem lV (hu:X.A.units + 16 < cLine) (ho:PE X o td) (hi:PE X i ty) (hs:jZ i):PE X (.Subscript o i pos) (uO a hd X.prog X.w X.K td ty):=by
 intro pins s σ H Q I h
 refine mN PySem.F.slot_dict_getitem.lookup hs (thn (ho pins s σ H _ I h) λu s1 ⟨x,H1,I1,rx,q1⟩=>thn (hi pins s1 σ H1 _ I1 q1) λiv s2 ⟨y,H2,I2,ry,d,ob,b,k,xs,p,v,ex,ey,ha,hk,g,hp,rv,q2⟩=>?_)
 subst ex ey
 obtain rfl:u=Value.ref d:=rx
 obtain rfl:iv=Value.ref b:=ry
 obtain ⟨_,es,ep,g1,g2,g3,g4,g5⟩:=pM I2 ha
 have dd:s2.heap.DictOfH (kd a hd X.prog X.w) d xs:=⟨ob,es,ep,g1,g2,g3,g4,λx hx=>key_is I2 (hk x hx),g5⟩
 exact ⟨dd.typeIs,wpAny_getItem_heap (show X.A.units + 1 + 8 < cLine by omega) (key_is I2 g) dd hp ⟨v,H2,I2.tok _,rv,q2⟩⟩
end
end Ev
namespace Hy
open PySem PySem.Spec PyProof.Rows L2
open Ev (D Den ar KD NEs dNk dY Bx ah pM Itw j4 lV)
section
variable {K:Type} [DecidableEq K] {a:KD K} {hd:a.dep<=7} {X:Cx} {C:Bool} {τ:List Sl} {x y:D} {b e f o ix tg:Expr} {pos p q apos cpos:Pos} {k:Nat} {N:Po} {rest:List Stmt} {m:List (K × D)} {key:K}
noncomputable def bxW (a:KD K) (hd:a.dep<=7) (P:Program) (w:World) (m:List (K × D)):Bx where
 p:=λF H d=>∃ ob xs,H d=some (.frz ob (dNk a hd P w d xs))/\EnK a F H xs m
 mono:=λe ⟨ob,xs,h1,h2⟩=>⟨ob,xs,e _ _ h1,h2.mono e⟩
 isd:=λ{_ _ d} ⟨ob,xs,h1,_⟩=>⟨_,h1,λP w H' h z=>let ⟨_,o,_,_,z1,z2,_⟩:=z.2.1; ⟨o,z1,z2.1⟩⟩
noncomputable def exW (a:KD K) (hd:a.dep<=7) (P:Program) (w:World) (ob:Obj) (m:List (K × D)):Ex where
 p:=λF G o p=>∃ xs,o=.frz ob (dNk a hd P w p xs)/\EnK a F G xs m
 mono:=λe ⟨xs,h1,h2⟩=>⟨xs,h1,h2.mono e⟩
 ext:=λ⟨xs,h1,_⟩=>.inr (.inl ⟨_,_,h1⟩)
theorem Sta.fzW {F:PySem.W.Frag} {P:Program} {w:World} {A:Addr->Prop} {H₀ H:Hp} {B:Nat->List Addr} {σ:L2.St} {i:Nat} {ob:Obj} (S:Sta F A H₀ τ B σ H) (hi:τ[i]?=some (.x (exW a hd P w ob m))):Sta F A H₀ (τ.set i (.d (.box (bxW a hd P w m)))) (upB B i []) σ H:=
 S.less (λ_ z=>nomatch z) λG g hv=>by
   obtain ⟨d,o,h1,h2,h3,xs,h4,h5⟩:=S.sl i _ hi
   subst h4
   exact ⟨rfl,_,h2,.box ⟨ob,xs,hv d _ (by rw [h1]; exact List.mem_singleton.mpr rfl) (λz=>nomatch z) h3,h5.mono g⟩⟩
theorem vm (i:Nat) (h:PSs X rest (dS X.K (τ.set i (.d (.box (bxW a hd X.prog X.w m)))) N)) (hi:τ[i]?=some (.x (exK a hd X.prog X.w m)):=by rfl):PSs X rest (dS X.K τ N):=by
 intro pins s σ H D I ⟨A,H₀,B,S,Me⟩
 obtain ⟨d,xs,h1,h2,h3,h4⟩:=S.dct hi
 obtain ⟨⟨z0,o,es,ep,z1,z2⟩,z3,z4⟩:=(show bw X.prog X.w H s.heap d (dNk a hd X.prog X.w d xs) from I.hok d _ h3)
 have I2:Inv X pins σ (upd H d (.frz o (dNk a hd X.prog X.w d xs))) s:=jh (t':=s.toks) (h':=s.heap) I (by rw [h3]; exact True.intro) (.refl _ _) ⟨o,z1⟩ ⟨z1,⟨z0,o,es,ep,z1,z2⟩,z3,z4⟩
 have hl:=(List.getElem?_eq_some_iff.mp hi).1
 have S2:=S.vJ (E':=exW a hd X.prog X.w o m) hi h2 ⟨xs,rfl,h4⟩
 have S3:=S2.fzW (ob:=o) (m:=m) (List.getElem?_set_self hl)
 rw [List.set_set] at S3
 exact h pins s σ _ D I2 ⟨A,H₀,_,S3,Me⟩
theorem uw (hu:X.A.units + 16 < cLine) (hb:PE X b (dE X.K C τ (.d (.box (bxW a hd X.prog X.w m))))) (hk:PE X ix (dE X.K C τ (.d (a.toD key)))) (hx:getM m key=some x) (hr:∀ H v,Den X.K H v (a.toD key)->∃ b,v=.ref b) (hs:jZ ix):PE X (.Subscript b ix pos) (dE X.K C τ (.d x)):=
 peW (lV (a:=a) (hd:=hd) hu hb hk hs) λσ H Q q=>by
   obtain ⟨A,H₀,B,S,kk⟩:=dg q
   refine aQ S λv H1 e1 d1=>aQ (S.mono e1) λy H2 e2 dy=>?_
   obtain ⟨b',rfl⟩:=hr _ _ dy
   cases d1.mono (ay e2 λ_ z=>z) with
   | box h=>
     obtain ⟨ob,xs,g3,g4⟩:=h
     have:=g4.at key
     rw [hx] at this
     obtain ⟨pp,v,h1,h2,h3⟩:=this
     exact ⟨_,ob,b',key,xs,pp,v,rfl,rfl,aI _ _ g3,λz hz=>(g4.key z hz).mono aI,dy.mono aI,h1,h2,kk v H2 (e1.trans e2) h3⟩
theorem EnK.pz {F:PySem.W.Frag} {G:Hp}:∀ {xs:NEs K} {m:List (K × D)},EnK a F G xs m->∀ i (h:i < m.length),∃ p,xs[i]?=some p/\p.1=(m[i]).1
 | _,_,.nil,i,h=>absurd h (by simp)
 | _,_,.cons ..,0,_=>⟨_,rfl,rfl⟩
 | _,_,.cons _ _ _ r,i + 1,h=>by
   obtain ⟨p,h1,h2⟩:=EnK.pz r i (by simpa using h)
   exact ⟨p,h1,h2⟩
theorem qB (h:PE X e (dE X.K true τ (.d (.box (bxW a hd X.prog X.w m))))) (hc:X.calm=true:=by first | rfl | assumption):PI X tg e (dI X.K τ (m.map λp=>a.toD p.1)):=piW (j4 (a:=a) (hd:=hd) hc h) λσ H R ⟨A,H₀,B,S,k⟩=>aQ S λv H1 e1 d1=>by
 cases d1 with
 | box h=>
   obtain ⟨ob,xs,g,en⟩:=h
   have ln:=en.length
   refine ⟨_,ob,xs,rfl,aI _ _ g,k _ H1 e1 λH2 sg=>⟨λi hi=>⟨by rw [ln]; simpa using hi,sg _ _ g⟩,λi hi=>⟨⟨by rw [ln]; simpa using hi,sg _ _ g⟩,λx H' ⟨eH,p,hp,ex⟩=>?_⟩⟩⟩
   subst eH ex
   refine ⟨aq.refl _,λM hM sM=>?_⟩
   have hi':i < m.length:=by simpa using hi
   obtain ⟨p',hp',ek⟩:=en.pz i hi'
   rw [hp] at hp'
   cases hp'
   rw [List.getElem_map,<- ek]
   exact (en.key p (List.mem_of_getElem? hp)).mono sM
end
end Hy
namespace Ev
open PySem PySem.Spec PyProof.Rows L2 PySem.W
section
variable {prog:Program} {w:World} {d:Addr} {o:Obj} {es:Array DictEntry} {ep:Nat}
end
section
variable {K:Type} [DecidableEq K] {a:KD K} {hd:a.dep<=7} {X:Cx}
end
end Ev
namespace Hy
open PySem PySem.Spec PyProof.Rows L2
open Ev (D Den ar KD NEs dNk dY Bx ah)
section
variable {K:Type} [DecidableEq K] {a:KD K} {hd:a.dep<=7} {X:Cx} {C:Bool} {τ:List Sl} {e:Expr} {pos p q:Pos} {k:Nat} {m:List (K × D)}
end
end Hy
namespace Ev
open PySem PySem.Spec PyProof.Rows L2
section
variable {X:Cx} {tg:Expr}
end
end Ev
namespace Hy
open PySem PySem.Spec PyProof.Rows L2
open Ev (D Den ar Bx ah)
section
variable {X:Cx} {C:Bool} {τ:List Sl} {e tg:Expr} {pos p apos cpos:Pos} {m:List (Int × Int)}
end
end Hy
namespace K40
open PySem PySem.Spec PyProof.Rows L2 Hy
noncomputable def top (i:Nat):Stmt:=PySem.Challenge.pw_signsmooth_k40_strict_ones.main.body.getD i (.Pass ⟨0,0,0,0⟩)
theorem fj:au ["_law_cell_here","_law_bases","_law_row_here","_law_base","_law_k","_law_mixed"] ["_law_cell_here","_law_bases"] (ag (top 42)):=⟨rfl,rfl,rfl,by decide +kernel,rfl,by decide +kernel,by decide +kernel⟩
theorem iU:au ["_law_cell_here","_law_parts"] ["_law_cell_here"] (ag (top 47)):=⟨rfl,rfl,rfl,by decide +kernel,rfl,by decide +kernel,by decide +kernel⟩
theorem nu:au ["_law_cell_here","_law_used"] ["_law_cell_here","_law_used"] (ag (top 43)):=⟨rfl,rfl,rfl,by decide +kernel,rfl,by decide +kernel,by decide +kernel⟩
theorem eZ:au ["_law_one","_law_other","_law_rest_here"] ["_law_one","_law_other"] (ag (top 44)):=⟨rfl,rfl,rfl,by decide +kernel,rfl,by decide +kernel,by decide +kernel⟩
theorem iQ:au ["_law_top","_law_bottom","_law_common"] ["_law_top","_law_bottom"] (ag (top 45)):=⟨rfl,rfl,rfl,by decide +kernel,rfl,by decide +kernel,by decide +kernel⟩
theorem gD:au ["_law_cell_here","_law_great","_law_parts","_law_many","_law_wide","_law_rows","_law_number_here","_law_other","_law_i","_law_line","_law_power","_law_j","_law_rising"] ["_law_cell_here","_law_great"] (ag (top 53)):=⟨rfl,rfl,rfl,by decide +kernel,rfl,by decide +kernel,by decide +kernel⟩
theorem m5:au ["_law_script","_law_k"] ["_law_script","_law_k"] (ag (top 41)):=⟨rfl,rfl,rfl,by decide +kernel,rfl,by decide +kernel,by decide +kernel⟩
theorem fP:au ["_law_kind","_law_part","_law_top"] ["_law_kind","_law_part"] (ag (top 46)):=⟨rfl,rfl,rfl,by decide +kernel,rfl,by decide +kernel,by decide +kernel⟩
theorem jT:au ["_law_cell_here","_law_many","_law_parts","_law_row_here","_law_k"] ["_law_cell_here","_law_many"] (ag (top 51)):=⟨rfl,rfl,rfl,by decide +kernel,rfl,by decide +kernel,by decide +kernel⟩
theorem dZ:au ["_law_many","_law_rows","_law_k","_law_longer","_law_row_here"] ["_law_many"] (ag (top 54)):=⟨rfl,rfl,rfl,by decide +kernel,rfl,by decide +kernel,by decide +kernel⟩
theorem fA:au ["thing"] ["thing"] (ag (top 14)):=⟨rfl,rfl,rfl,by decide +kernel,rfl,by decide +kernel,by decide +kernel⟩
theorem j5:au ["thing"] ["thing"] (ag (top 7)):=⟨rfl,rfl,rfl,by decide +kernel,rfl,by decide +kernel,by decide +kernel⟩
theorem ck:au ["one","other","greater","lesser","rest"] ["one","other"] (ag (top 9)):=⟨rfl,rfl,rfl,by decide +kernel,rfl,by decide +kernel,by decide +kernel⟩
theorem gu:au ["thing"] ["thing"] (ag (top 8)):=⟨rfl,rfl,rfl,by decide +kernel,rfl,by decide +kernel,by decide +kernel⟩
theorem nj:au ["thing"] ["thing"] (ag (top 15)):=⟨rfl,rfl,rfl,by decide +kernel,rfl,by decide +kernel,by decide +kernel⟩
theorem kc:au ["thing"] ["thing"] (ag (top 16)):=⟨rfl,rfl,rfl,by decide +kernel,rfl,by decide +kernel,by decide +kernel⟩
theorem iw:au ["thing"] ["thing"] (ag (top 17)):=⟨rfl,rfl,rfl,by decide +kernel,rfl,by decide +kernel,by decide +kernel⟩
theorem dW:au ["many","size","found","turn","longer","choice","least"] ["many","size"] (ag (top 18)):=⟨rfl,rfl,rfl,by decide +kernel,rfl,by decide +kernel,by decide +kernel⟩
theorem cn:au ["known","row","columns","total","k","part"] ["known","row","columns"] (ag (top 32)):=⟨rfl,rfl,rfl,by decide +kernel,rfl,by decide +kernel,by decide +kernel⟩
theorem cZ:au ["known","row","column_choices","found","columns"] ["known","row","column_choices"] (ag (top 31)):=⟨rfl,rfl,rfl,by decide +kernel,rfl,by decide +kernel,by decide +kernel⟩
theorem bS:au ["rows","found","known","size","fresh","column_choices","some","columns"] ["rows"] (ag (top 30)):=⟨rfl,rfl,rfl,by decide +kernel,rfl,by decide +kernel,by decide +kernel⟩
theorem jL:au ["row","scale"] ["row","scale"] (ag (top 23)):=⟨rfl,rfl,rfl,by decide +kernel,rfl,by decide +kernel,by decide +kernel⟩
theorem iq:au ["table","scales"] ["table","scales"] (ag (top 24)):=⟨rfl,rfl,rfl,by decide +kernel,rfl,by decide +kernel,by decide +kernel⟩
theorem fO:au ["row","scale","number"] ["row"] (ag (top 22)):=⟨rfl,rfl,rfl,by decide +kernel,rfl,by decide +kernel,by decide +kernel⟩
theorem di:au ["table","bound","found","choices"] ["table","bound"] (ag (top 29)):=⟨rfl,rfl,rfl,by decide +kernel,rfl,by decide +kernel,by decide +kernel⟩
theorem je:au ["table"] ["table"] (ag (top 28)):=⟨rfl,rfl,rfl,by decide +kernel,rfl,by decide +kernel,by decide +kernel⟩
theorem ka:au ["thing"] ["thing"] (ag (top 34)):=⟨rfl,rfl,rfl,by decide +kernel,rfl,by decide +kernel,by decide +kernel⟩
theorem jf:au ["table","j"] ["table","j"] (ag (top 20)):=⟨rfl,rfl,rfl,by decide +kernel,rfl,by decide +kernel,by decide +kernel⟩
theorem iz:au ["table"] ["table"] (ag (top 19)):=⟨rfl,rfl,rfl,by decide +kernel,rfl,by decide +kernel,by decide +kernel⟩
theorem b6:au ["top","bottom","divisor"] ["top","bottom"] (ag (top 10)):=⟨rfl,rfl,rfl,by decide +kernel,rfl,by decide +kernel,by decide +kernel⟩
theorem j9:au ["top","bottom"] ["top","bottom"] (ag (top 11)):=⟨rfl,rfl,rfl,by decide +kernel,rfl,by decide +kernel,by decide +kernel⟩
theorem eD:au ["numbers","others"] ["numbers","others"] (ag (top 27)):=⟨rfl,rfl,rfl,by decide +kernel,rfl,by decide +kernel,by decide +kernel⟩
theorem dJ:au ["row","whole_columns","scales","row_scale","numbers"] ["row","whole_columns","scales"] (ag (top 26)):=⟨rfl,rfl,rfl,by decide +kernel,rfl,by decide +kernel,by decide +kernel⟩
theorem gL:au ["one","other","columns","scales","whole_columns"] ["one","other"] (ag (top 25)):=⟨rfl,rfl,rfl,by decide +kernel,rfl,by decide +kernel,by decide +kernel⟩
theorem nX:au ["table","row"] ["table","row"] (ag (top 39)):=⟨rfl,rfl,rfl,by decide +kernel,rfl,by decide +kernel,by decide +kernel⟩
theorem lx:au ["number"] ["number"] (ag (top 35)):=⟨rfl,rfl,rfl,by decide +kernel,rfl,by decide +kernel,by decide +kernel⟩
theorem jY:au ["row"] ["row"] (ag (top 36)):=⟨rfl,rfl,rfl,by decide +kernel,rfl,by decide +kernel,by decide +kernel⟩
theorem cU:au ["row","changes","last","k","sign","taken"] ["row"] (ag (top 38)):=⟨rfl,rfl,rfl,by decide +kernel,rfl,by decide +kernel,by decide +kernel⟩
theorem cE:au ["row","signs"] ["row"] (ag (top 37)):=⟨rfl,rfl,rfl,by decide +kernel,rfl,by decide +kernel,by decide +kernel⟩
theorem og:au ["_law_number_here"] ["_law_number_here"] (ag (top 48)):=⟨rfl,rfl,rfl,by decide +kernel,rfl,by decide +kernel,by decide +kernel⟩
theorem gr:au ["_law_row_here","_law_number_here"] ["_law_row_here"] (ag (top 50)):=⟨rfl,rfl,rfl,by decide +kernel,rfl,by decide +kernel,by decide +kernel⟩
theorem iY:au ["_law_row_here","_law_most_here","_law_k","_law_number_here","_law_sign_here","_law_up","_law_down"] ["_law_row_here"] (ag (top 52)):=⟨rfl,rfl,rfl,by decide +kernel,rfl,by decide +kernel,by decide +kernel⟩
theorem gP:au ["_law_row_here","_law_signs"] ["_law_row_here"] (ag (top 49)):=⟨rfl,rfl,rfl,by decide +kernel,rfl,by decide +kernel,by decide +kernel⟩
theorem gQ:au ["_law_table","_law_row_here","_law_found","_law_most_here","_law_least_here"] ["_law_table","_law_row_here"] (ag (top 55)):=⟨rfl,rfl,rfl,by decide +kernel,rfl,by decide +kernel,by decide +kernel⟩
theorem oE:au ["_law_script","_law_k","_law_table","_law_wide","_law_rows"] ["_law_script"] (ag (top 56)):=⟨rfl,rfl,rfl,by decide +kernel,rfl,by decide +kernel,by decide +kernel⟩
end K40
namespace K40
open PySem PySem.Spec PyProof.Rows L2 Hy
open Ev (D Den ar aF aE)
noncomputable def ax (f:Nat->Rat):Nat->Rat
 | 0=>0
 | n + 1=>ax f n + f n
theorem av {f g:Nat->Rat}:∀ {n:Nat},(∀ k < n,f k=g k)->ax f n=ax g n
 | 0,_=>rfl
 | n + 1,h=>by rw [ax,ax,av λk hk=>h k (by omega),h n (by omega)]
theorem a4 (c:Rat) (f:Nat->Rat):∀ n:Nat,c * ax f n=ax (λk=>c * f k) n
 | 0=>Rat.mul_zero c
 | n + 1=>by rw [ax,ax,Rat.mul_add,a4 c f n]
theorem g9 (c:Rat) (f:Nat->Rat):∀ n:Nat,ax f n * c=ax (λk=>f k * c) n
 | 0=>Rat.zero_mul c
 | n + 1=>by rw [ax,ax,Rat.add_mul,g9 c f n]
theorem dj (f g:Nat->Rat):∀ n:Nat,ax (λk=>f k + g k) n=ax f n + ax g n
 | 0=>(Rat.add_zero 0).symm
 | n + 1=>by rw [ax,ax,ax,dj f g n]; grind
theorem fH:∀ n:Nat,ax (λ_=>0) n=0
 | 0=>rfl
 | n + 1=>by rw [ax,fH n,Rat.add_zero]
theorem iO (f:Nat->Nat->Rat) (m:Nat):∀ n:Nat,ax (λk=>ax (λl=>f k l) m) n=ax (λl=>ax (λk=>f k l) n) m
 | 0=>by simp only [ax]; exact (fH m).symm
 | n + 1=>by simp only [ax]; rw [iO f m n,<- dj]
noncomputable def dq (i j:Nat):Rat:=if i=j then 1 else 0
theorem jV (A:Nat->Rat) (j:Nat):∀ n:Nat,n<=j->ax (λk=>A k * dq k j) n=0
 | 0,_=>rfl
 | n + 1,h=>by
   rw [ax,jV A j n (by omega),dq,if_neg (by omega),Rat.mul_zero,Rat.add_zero]
theorem cH (A:Nat->Rat) (j:Nat):∀ n:Nat,j < n->ax (λk=>A k * dq k j) n=A j
 | n + 1,h=>by
   rw [ax]
   by_cases e:j=n
   · subst e
     rw [jV A j j (Nat.le_refl _),dq,if_pos rfl,Rat.mul_one,Rat.zero_add]
   · rw [cH A j n (by omega),dq,if_neg (by omega),Rat.mul_zero,Rat.add_zero]
theorem lF (A:Nat->Rat) (i n:Nat) (h:i < n):ax (λk=>dq i k * A k) n=A i:=by
 rw [<- cH A i n h]
 congr 1
 funext k
 rw [Rat.mul_comm,dq,dq]
 by_cases e:i=k
 · rw [if_pos e,if_pos e.symm]
 · rw [if_neg e,if_neg λz=>e z.symm]
theorem iC (f:Nat->Int):∀ n:Nat,((((List.range n).map f).sum:Int):Rat)=ax (λk=>(f k:Rat)) n
 | 0=>rfl
 | n + 1=>by
   rw [List.range_succ,List.map_append,List.sum_append,Rat.intCast_add,iC f n,ax]
   simp
noncomputable def skp (i r:Nat):Nat:=if r < i then r else r + 1
noncomputable def minor (M:Nat->Nat->Rat) (i r c:Nat):Rat:=M (skp i r) (c + 1)
noncomputable def sgn (i:Nat):Rat:=if i % 2=0 then 1 else -1
theorem cI (i:Nat):sgn (i + 1)=-sgn i:=by
 unfold sgn
 by_cases h:i % 2=0
 · rw [if_pos h,if_neg (by omega)]
 · rw [if_neg h,if_pos (by omega)]
   rfl
theorem dB (i:Nat):sgn i * sgn i=1:=by
 unfold sgn
 split <;> grind
noncomputable def det:Nat->(Nat->Nat->Rat)->Rat
 | 0,_=>1
 | n + 1,M=>ax (λi=>sgn i * M i 0 * det n (minor M i)) (n + 1)
theorem jO {i r n:Nat} (h:r < n):skp i r < n + 1:=by unfold skp; split <;> omega
theorem sE (i r:Nat):skp i r ≠ i:=by unfold skp; split <;> omega
theorem aj:∀ {n:Nat} {M M':Nat->Nat->Rat},(∀ i < n,∀ j < n,M i j=M' i j)->det n M=det n M'
 | 0,_,_,_=>rfl
 | n + 1,M,M',h=>by
   unfold det
   refine av λi hi=>?_
   rw [h i hi 0 (by omega),aj (M:=minor M i) (M':=minor M' i) λr hr c hc=>h _ (jO hr) _ (by omega)]
noncomputable def ak (M:Nat->Nat->Rat) (p:Nat) (v:Nat->Rat) (r c:Nat):Rat:=if r=p then v c else M r c
noncomputable def bE (M:Nat->Nat->Rat) (q:Nat) (v:Nat->Rat) (r c:Nat):Rat:=if c=q then v r else M r c
noncomputable def un (i p:Nat):Nat:=if p < i then p else p - 1
theorem eG (M:Nat->Nat->Rat) (p:Nat) (v:Nat->Rat):minor (ak M p v) p=minor M p:=by
 funext r c
 unfold minor ak
 rw [if_neg (sE p r)]
theorem dH (M:Nat->Nat->Rat) {i p:Nat} (h:i ≠ p) (v:Nat->Rat):minor (ak M p v) i=ak (minor M i) (un i p) λc=>v (c + 1):=by
 funext r c
 unfold minor ak
 have:skp i r=p ↔ r=un i p:=by unfold skp un; split <;> split <;> omega
 by_cases q:skp i r=p
 · rw [if_pos q,if_pos (this.mp q)]
 · rw [if_neg q,if_neg λz=>q (this.mpr z)]
theorem jx:∀ {n:Nat} (M:Nat->Nat->Rat) {p:Nat},p < n->∀ (a b:Rat) (x y:Nat->Rat),det n (ak M p λc=>a * x c + b * y c)=a * det n (ak M p x) + b * det n (ak M p y)
 | 0,_,_,h,_,_,_,_=>absurd h (Nat.not_lt_zero _)
 | n + 1,M,p,hp,a,b,x,y=>by
   unfold det
   rw [a4,a4,<- dj]
   refine av λi hi=>?_
   by_cases h:i=p
   · subst h
     rw [eG,eG,eG]
     simp only [ak,if_pos rfl]
     grind
   · rw [dH M h,dH M h,dH M h,jx (minor M i) (show un i p < n by unfold un; split <;> omega) a b]
     simp only [ak,if_neg h]
     grind
theorem oJ {f:Nat->Rat} {p:Nat} (h0:∀ i,i ≠ p->i ≠ p + 1->f i=0) (h:f p + f (p + 1)=0):∀ n,p + 1 < n->ax f n=0:=by
 have z:∀ n,n<=p->ax f n=0:=by
   intro n
   induction n with
   | zero=>intro _; rfl
   | succ n ih=>intro hn; rw [ax,ih (by omega),h0 n (by omega) (by omega),Rat.add_zero]
 intro n
 induction n with
 | zero=>intro hn; omega
 | succ n ih=>
   intro hn
   rw [ax]
   by_cases q:n=p + 1
   · subst q
     rw [ax,z p (Nat.le_refl _),Rat.zero_add]
     exact h
   · rw [ih (by omega),h0 n (by omega) q,Rat.add_zero]
theorem fx {f:Nat->Rat} {n:Nat} (h:∀ i < n,f i=0):ax f n=0:=by
 rw [av h]; exact fH n
theorem fZ:∀ {n:Nat} {M:Nat->Nat->Rat} {p:Nat},p + 1 < n->(∀ c < n,M p c=M (p + 1) c)->det n M=0
 | 0,_,_,h,_=>absurd h (Nat.not_lt_zero _)
 | n + 1,M,p,hp,h=>by
   unfold det
   let f:Nat->Rat:=λi=>if i < n + 1 then sgn i * M i 0 * det n (minor M i) else 0
   have e:ax (λi=>sgn i * M i 0 * det n (minor M i)) (n + 1)=ax f (n + 1):=av λi hi=>by simp only [f]; rw [if_pos hi]
   rw [e]
   refine oJ (p:=p) (λi h1 h2=>?_) ?_ _ hp
   · simp only [f]
     by_cases hi:i < n + 1
     · rw [if_pos hi]
       have:det n (minor M i)=0:=by
         by_cases q:i < p
         · refine fZ (p:=p - 1) (by omega) λc hc=>?_
           unfold minor skp
           rw [if_neg (by omega),if_neg (by omega),show p - 1 + 1=p by omega]
           exact h (c + 1) (by omega)
         · refine fZ (p:=p) (by omega) λc hc=>?_
           unfold minor skp
           rw [if_pos (by omega),if_pos (by omega)]
           exact h (c + 1) (by omega)
       rw [this,Rat.mul_zero]
     · rw [if_neg hi]
   · simp only [f]
     rw [if_pos (by omega),if_pos hp,cI,<- h 0 (by omega)]
     have:det n (minor M p)=det n (minor M (p + 1)):=aj λr hr c hc=>by
       unfold minor skp
       by_cases q:r < p
       · rw [if_pos q,if_pos (by omega)]
       · rw [if_neg q]
         by_cases q2:r=p
         · subst q2
           rw [if_pos (by omega)]
           exact (h (c + 1) (by omega)).symm
         · rw [if_neg (by omega)]
     rw [this]
     grind
structure ML (n:Nat) (f:(Nat->Nat->Rat)->Rat):Prop where
 cong:∀ {M M':Nat->Nat->Rat},(∀ i < n,∀ j < n,M i j=M' i j)->f M=f M'
 lin:∀ (M:Nat->Nat->Rat) {p:Nat},p < n->∀ (a b:Rat) (x y:Nat->Rat),f (ak M p λc=>a * x c + b * y c)=a * f (ak M p x) + b * f (ak M p y)
 alt:∀ {M:Nat->Nat->Rat} {p:Nat},p + 1 < n->(∀ c < n,M p c=M (p + 1) c)->f M=0
theorem cP (n:Nat):ML n (det n):=⟨aj,jx,fZ⟩
section
variable {n:Nat} {f:(Nat->Nat->Rat)->Rat}
theorem a8 (M:Nat->Nat->Rat) (p:Nat):ak M p (M p)=M:=by
 funext r c
 unfold ak
 split
 · rename_i h; rw [h]
 · rfl
theorem bb {M:Nat->Nat->Rat} {p:Nat} {v:Nat->Rat}:ak M p v p=v:=by funext c; unfold ak; rw [if_pos rfl]
theorem a9 {M:Nat->Nat->Rat} {p r:Nat} {v:Nat->Rat} (h:r ≠ p):ak M p v r=M r:=by funext c; unfold ak; rw [if_neg h]
theorem aY {M:Nat->Nat->Rat} {p q:Nat} {v u:Nat->Rat} (h:p ≠ q):ak (ak M p v) q u=ak (ak M q u) p v:=by
 funext r c
 unfold ak
 by_cases h1:r=q
 · rw [if_pos h1,if_neg λz=>h (z.symm.trans h1),if_pos h1]
 · rw [if_neg h1,if_neg h1]
theorem ML.add (h:ML n f) (M:Nat->Nat->Rat) {p:Nat} (hp:p < n) (x y:Nat->Rat):f (ak M p λc=>x c + y c)=f (ak M p x) + f (ak M p y):=by
 have:=h.lin M hp 1 1 x y
 simp only [Rat.one_mul] at this
 exact this
theorem ML.nb (h:ML n f) (M:Nat->Nat->Rat) {p:Nat} (hp:p + 1 < n) (x y:Nat->Rat):f (ak (ak M p x) (p + 1) y)=-f (ak (ak M p y) (p + 1) x):=by
 have z:∀ u:Nat->Rat,f (ak (ak M p u) (p + 1) u)=0:=λu=>h.alt hp λc _=>by rw [bb,a9 (by omega),bb]
 have e:=z λc=>x c + y c
 rw [h.add _ hp] at e
 rw [aY (by omega),h.add _ (show p < n by omega),aY (M:=M) (p:=p) (q:=p + 1) (v:=λc=>x c + y c) (u:=y) (by omega),h.add _ (show p < n by omega)] at e
 rw [aY (M:=M) (p:=p + 1) (q:=p) (v:=x) (u:=x) (by omega),z x,aY (M:=M) (p:=p + 1) (q:=p) (v:=y) (u:=y) (by omega),z y,aY (M:=M) (p:=p + 1) (q:=p) (v:=x) (u:=y) (by omega),aY (M:=M) (p:=p + 1) (q:=p) (v:=y) (u:=x) (by omega)] at e
 grind
theorem ML.two (h:ML n f):∀ (d:Nat) (M:Nat->Nat->Rat) (p:Nat),p + 1 + d < n->M p=M (p + 1 + d)->f M=0
 | 0,M,p,hp,e=>h.alt hp λc _=>by rw [e]
 | d + 1,M,p,hp,e=>by
   have s:=h.nb M (p:=p + 1 + d) (by omega) (M (p + 1 + d)) (M (p + 1 + d + 1))
   rw [a8,a8] at s
   rw [s,ML.two h d _ p (by omega) (by rw [a9 (by omega),a9 (by omega),a9 (by omega),bb]; exact e)]
   rfl
theorem ML.same (h:ML n f) {M:Nat->Nat->Rat} {p q:Nat} (hp:p < n) (hq:q < n) (hpq:p ≠ q) (e:M p=M q):f M=0:=by
 rcases Nat.lt_or_lt_of_ne hpq with z | z
 · exact h.two (q - p - 1) M p (by omega) (by rw [show p + 1 + (q - p - 1)=q by omega]; exact e)
 · exact h.two (p - q - 1) M q (by omega) (by rw [show q + 1 + (p - q - 1)=p by omega]; exact e.symm)
theorem ML.swap (h:ML n f) {M:Nat->Nat->Rat} {p q:Nat} (hp:p < n) (hq:q < n) (hpq:p ≠ q) (x y:Nat->Rat):f (ak (ak M p x) q y)=-f (ak (ak M p y) q x):=by
 have z:∀ u:Nat->Rat,f (ak (ak M p u) q u)=0:=λu=>h.same hp hq hpq (by rw [bb,a9 hpq,bb])
 have e:=z λc=>x c + y c
 have c1:∀ u v:Nat->Rat,ak (ak M q u) p v=ak (ak M p v) q u:=λu v=>aY λz=>hpq z.symm
 rw [h.add _ hq,aY hpq,h.add _ hp,aY (M:=M) (p:=p) (q:=q) (v:=λc=>x c + y c) (u:=y) hpq,h.add _ hp,c1,c1,c1,c1,z x,z y] at e
 grind
theorem ML.vI (h:ML n f) (M:Nat->Nat->Rat) {p:Nat} (hp:p < n):f (ak M p λ_=>0)=0:=by
 have:=h.lin M hp 0 0 (λ_=>0) (λ_=>0)
 simp only [Rat.zero_mul,Rat.add_zero] at this
 exact this
theorem ML.sum (h:ML n f) (M:Nat->Nat->Rat) {p:Nat} (hp:p < n) (v:Nat->Rat) (e:Nat->Nat->Rat):∀ m,f (ak M p λj=>ax (λc=>v c * e c j) m)=ax (λc=>v c * f (ak M p (e c))) m
 | 0=>h.vI M hp
 | m + 1=>by
   have:=h.lin M hp 1 (v m) (λj=>ax (λc=>v c * e c j) m) (e m)
   simp only [Rat.one_mul] at this
   rw [ax,<- ML.sum h M hp v e m]
   exact this
theorem ML.comb (h:ML n f) (M:Nat->Nat->Rat) {p k:Nat} (hp:p < n) (hk:k<=p) (d:Rat) (β:Nat->Rat):f (ak M p λj=>d * M p j + ax (λi=>β i * M i j) k)=d * f M:=by
 have e:=h.lin M hp d 1 (M p) (λj=>ax (λi=>β i * M i j) k)
 simp only [Rat.one_mul] at e
 rw [e,a8,h.sum M hp β M k,fx,Rat.add_zero]
 intro i hi
 rw [h.same (p:=i) (q:=p) (by omega) hp (by omega) (by rw [a9 (by omega),bb]),Rat.mul_zero]
end
noncomputable def idQ (i j:Nat):Rat:=if i=j then 1 else 0
noncomputable def un1 (σ:Nat->Nat) (i j:Nat):Rat:=if σ i=j then 1 else 0
theorem oG:∀ (m:Nat) (σ:Nat->Nat),(∀ i < m + 1,σ i < m)->∃ i j,i < j/\j < m + 1/\σ i=σ j
 | 0,σ,h=>absurd (h 0 (by decide)) (Nat.not_lt_zero _)
 | m + 1,σ,h=>by
   by_cases q:∃ i,i < m + 1/\σ i=σ (m + 1)
   · obtain ⟨i,hi,e⟩:=q
     exact ⟨i,m + 1,hi,by omega,e⟩
   · have q':∀ i < m + 1,σ i ≠ σ (m + 1):=λi hi z=>q ⟨i,hi,z⟩
     obtain ⟨i,j,h1,h2,e⟩:=oG m (λi=>if σ (m + 1) < σ i then σ i - 1 else σ i) λi hi=>by
       have a:=h i (by omega)
       have b:=h (m + 1) (by omega)
       have c:=q' i hi
       split <;> omega
     refine ⟨i,j,h1,by omega,?_⟩
     have a:=q' i (by omega)
     have b:=q' j h2
     split at e <;> split at e <;> omega
theorem qJ {n k:Nat} {σ:Nat->Nat} (h:∀ i < n,σ i < n) (hk:k < n) (hn:∀ i < n,σ i ≠ k):∃ i j,i < j/\j < n/\σ i=σ j:=by
 obtain ⟨m,rfl⟩:∃ m,n=m + 1:=⟨n - 1,by omega⟩
 obtain ⟨i,j,h1,h2,e⟩:=oG m (λi=>if k < σ i then σ i - 1 else σ i) λi hi=>by
   have a:=h i hi
   have b:=hn i hi
   split <;> omega
 refine ⟨i,j,h1,h2,?_⟩
 have a:=hn i (by omega)
 have b:=hn j h2
 split at e <;> split at e <;> omega
section
variable {n:Nat} {h:(Nat->Nat->Rat)->Rat}
theorem ML.oH (H:ML n h) (h0:h idQ=0):∀ (d k:Nat),k + d=n->∀ σ:Nat->Nat,(∀ i < n,σ i < n)->(∀ i < k,σ i=i)->h (un1 σ)=0
 | 0,k,hk,σ,_,hf=>by
   rw [<- h0]
   exact H.cong λi hi j _=>by unfold un1 idQ; rw [hf i (by omega)]
 | d + 1,k,hk,σ,hs,hf=>by
   by_cases q:∃ j,k<=j/\j < n/\σ j=k
   · obtain ⟨j,h1,h2,h3⟩:=q
     by_cases z:j=k
     · subst z
       exact ML.oH H h0 d (j + 1) (by omega) σ hs λi hi=>by
         by_cases y:i=j
         · rw [y]; exact h3
         · exact hf i (by omega)
     · have e:un1 σ=ak (ak (un1 σ) k (un1 σ k)) j (un1 σ j):=by rw [a8,a8]
       have e2:ak (ak (un1 σ) k (un1 σ j)) j (un1 σ k)=un1 λi=>if i=j then σ k else if i=k then σ j else σ i:=by
         funext r c
         have zk:¬ k=j:=λy=>z y.symm
         by_cases y1:r=j <;> by_cases y2:r=k <;> simp [ak,un1,y1,y2,zk]
       rw [e,H.swap (by omega) h2 (λy=>z y.symm),e2,ML.oH H h0 d (k + 1) (by omega) _ (λi hi=>?_) (λi hi=>?_)]
       · rfl
       · split
         · exact hs k (by omega)
         · split
           · exact hs j h2
           · exact hs i hi
       · rw [if_neg (by omega)]
         by_cases y:i=k
         · rw [if_pos y,h3,y]
         · rw [if_neg y]
           exact hf i (by omega)
   · obtain ⟨i,j,h1,h2,e⟩:=qJ hs (show k < n by omega) λi hi z=>by
       by_cases y:i < k
       · have:=hf i y
         omega
       · exact q ⟨i,by omega,hi,z⟩
     exact H.same (p:=i) (q:=j) (by omega) h2 (by omega) (by funext c; unfold un1; rw [e])
noncomputable def ja (k:Nat) (M:Nat->Nat->Rat) (σ:Nat->Nat) (i j:Nat):Rat:=if i < k then M i j else un1 σ i j
theorem ML.vj (H:ML n h) (h0:h idQ=0) (M:Nat->Nat->Rat):∀ (k:Nat),k<=n->∀ σ:Nat->Nat,(∀ i < n,σ i < n)->h (ja k M σ)=0
 | 0,_,σ,hs=>by
   rw [<- ML.oH H h0 n 0 (by omega) σ hs λi hi=>absurd hi (Nat.not_lt_zero _)]
   exact H.cong λi _ j _=>by unfold ja; rw [if_neg (Nat.not_lt_zero _)]
 | k + 1,hk,σ,hs=>by
   have e:h (ja (k + 1) M σ)=h (ak (ja k M σ) k λj=>ax (λc=>M k c * idQ c j) n):=H.cong λi hi j hj=>by
     unfold ak ja
     by_cases y:i=k
     · subst y
       rw [if_pos (by omega),if_pos rfl]
       exact (cH (M i) j n hj).symm
     · rw [if_neg y]
       by_cases z:i < k
       · rw [if_pos (by omega),if_pos z]
       · rw [if_neg (by omega),if_neg z]
   rw [e,H.sum _ (by omega),fx]
   intro c hc
   have e2:ak (ja k M σ) k (idQ c)=ja k M λi=>if i=k then c else σ i:=by
     funext r j
     by_cases y:r=k <;> simp [ak,ja,un1,idQ,y]
   rw [e2,ML.vj H h0 M k (by omega) _ (λi hi=>?_),Rat.mul_zero]
   split
   · exact hc
   · exact hs i hi
theorem ML.zero (H:ML n h) (h0:h idQ=0) (M:Nat->Nat->Rat):h M=0:=by
 rw [<- ML.vj H h0 M n (Nat.le_refl _) (λi=>i) λi hi=>hi]
 exact H.cong λi hi j _=>by unfold ja; rw [if_pos hi]
end
theorem oN:minor idQ 0=idQ:=by
 funext r c
 unfold minor idQ skp
 rw [if_neg (Nat.not_lt_zero _)]
 by_cases h:r=c
 · rw [if_pos (by omega),if_pos h]
 · rw [if_neg (by omega),if_neg h]
theorem lC:∀ n,det n idQ=1
 | 0=>rfl
 | n + 1=>by
   unfold det
   rw [av (g:=λi=>det n (minor idQ i) * idQ i 0) λi hi=>?_]
   · have:=cH (λi=>det n (minor idQ i)) 0 (n + 1) (by omega)
     have e:(λi=>det n (minor idQ i) * idQ i 0)=λk=>(λi=>det n (minor idQ i)) k * dq k 0:=rfl
     rw [e,this,oN,lC n]
   · by_cases z:i=0
     · subst z
       show 1 * 1 * _=_ * 1
       grind
     · unfold idQ
       rw [if_neg z]
       grind
theorem ML.uniq {n:Nat} {f:(Nat->Nat->Rat)->Rat} (F:ML n f) (M:Nat->Nat->Rat):f M=det n M * f idQ:=by
 have D:=cP n
 have H:ML n λM=>f M - det n M * f idQ:=by
   refine ⟨λ{M M'} e=>?_,λM p hp a b x y=>?_,λ{M p} hp e=>?_⟩
   · rw [F.cong e,D.cong e]
   · rw [F.lin M hp,D.lin M hp]
     grind
   · rw [F.alt hp e,D.alt hp e]
     grind
 have:=H.zero (by rw [lC]; grind) M
 grind
theorem gE:∀ {n:Nat} (M:Nat->Nat->Rat) {q:Nat},q < n->∀ (a b:Rat) (x y:Nat->Rat),det n (bE M q λc=>a * x c + b * y c)=a * det n (bE M q x) + b * det n (bE M q y)
 | 0,_,_,h,_,_,_,_=>absurd h (Nat.not_lt_zero _)
 | n + 1,M,q,hq,a,b,x,y=>by
   unfold det
   rw [a4,a4,<- dj]
   refine av λi hi=>?_
   cases q with
   | zero=>
     have e:∀ v,minor (bE M 0 v) i=minor M i:=λv=>by
       funext r c
       unfold minor bE
       rw [if_neg (by omega)]
     rw [e,e,e]
     simp only [bE,if_true]
     grind
   | succ q=>
     have e:∀ v,minor (bE M (q + 1) v) i=bE (minor M i) q λr=>v (skp i r):=λv=>by
       funext r c
       unfold minor bE
       by_cases z:c=q
       · rw [if_pos (by omega),if_pos z]
       · rw [if_neg (by omega),if_neg z]
     rw [e,e,e,gE (minor M i) (show q < n by omega) a b]
     have z:¬ (0=q + 1):=by omega
     simp only [bE,if_neg z]
     grind
theorem iN (g:Nat->Rat) (i:Nat):∀ n,i<=n->ax (λj=>g (skp i j)) n=ax g (n + 1) - g i
 | 0,h=>by
   have:i=0:=by omega
   subst this
   show (0:Rat)=0 + g 0 - g 0
   grind
 | n + 1,h=>by
   by_cases q:i=n + 1
   · subst q
     have e:ax (λj=>g (skp (n + 1) j)) (n + 1)=ax g (n + 1):=av λk hk=>by unfold skp; rw [if_pos hk]
     rw [e,ax.eq_2 g (n + 1)]
     grind
   · rw [ax,iN g i n (by omega),ax.eq_2 g (n + 1)]
     have:skp i n=n + 1:=by unfold skp; rw [if_neg (by omega)]
     rw [this]
     grind
theorem nO {n:Nat} {G:Nat->Nat->Rat} (h:∀ i < n,∀ j < n,G i j=-G j i):ax (λi=>ax (λj=>G i j) n) n=0:=by
 have e:ax (λi=>ax (λj=>G i j) n) n=-1 * ax (λi=>ax (λj=>G i j) n) n:=by
   conv=>lhs; rw [iO]
   rw [a4]
   refine av λi hi=>?_
   rw [a4]
   refine av λj hj=>?_
   rw [h j hj i hi]
   grind
 grind
theorem rB {i j r:Nat} (h:i < j):skp i (skp (j - 1) r)=skp j (skp i r):=by
 unfold skp
 split <;> split <;> (try split) <;> (try split) <;> omega
theorem kn:∀ {n:Nat} {M:Nat->Nat->Rat} {q:Nat},q + 1 < n->(∀ r < n,M r q=M r (q + 1))->det n M=0
 | 0,_,_,h,_=>absurd h (Nat.not_lt_zero _)
 | 1,_,_,h,_=>by omega
 | n + 2,M,q + 1,hq,h=>by
   rw [det]
   refine fx λi hi=>?_
   rw [kn (M:=minor M i) (q:=q) (by omega) λr hr=>h _ (jO hr),Rat.mul_zero]
 | n + 2,M,0,hq,h=>by
   let D:Nat->Nat->Rat:=λi j=>det n λr c=>M (skp i (skp j r)) (c + 2)
   let G:Nat->Nat->Rat:=λi j=>if i < j then -(sgn i * sgn j * M i 0 * M j 0 * D i (j - 1)) else if j < i then sgn i * sgn j * M i 0 * M j 0 * D i j else 0
   have inner:∀ i < n + 2,sgn i * M i 0 * det (n + 1) (minor M i)=ax (λj=>G i j) (n + 2):=λi hi=>by
     have e:ax (λj=>G i j) (n + 2)=ax (λj=>G i (skp i j)) (n + 1):=by
       have g0:G i i=0:=by simp only [G]; rw [if_neg (Nat.lt_irrefl i),if_neg (Nat.lt_irrefl i)]
       rw [iN (λj=>G i j) i (n + 1) (by omega),g0]
       grind
     rw [e,det,a4]
     refine av λj hj=>?_
     have m0:minor M i j 0=M (skp i j) 0:=(h _ (jO hj)).symm
     have mm:det n (minor (minor M i) j)=D i j:=rfl
     rw [m0,mm]
     simp only [G]
     by_cases z:j < i
     · have s:skp i j=j:=by unfold skp; rw [if_pos z]
       rw [s,if_neg (by omega),if_pos z]
       grind
     · have s:skp i j=j + 1:=by unfold skp; rw [if_neg z]
       rw [s,if_pos (by omega),cI,show j + 1 - 1=j by omega]
       grind
   rw [det,av inner]
   refine nO λi hi j hj=>?_
   have sy:∀ {i j:Nat},i < j->D i (j - 1)=D j i:=λ{i j} z=>by
     simp only [D]
     congr 1
     funext r c
     rw [rB z]
   simp only [G]
   rcases Nat.lt_trichotomy i j with z | z | z
   · rw [if_pos z,if_neg (by omega),if_pos z,sy z]
     grind
   · subst z
     rw [if_neg (Nat.lt_irrefl _),if_neg (Nat.lt_irrefl _)]
     rfl
   · rw [if_neg (by omega),if_pos z,if_pos z,sy z]
     grind
theorem dh (n:Nat) (M:Nat->Nat->Rat):det n (λi j=>M j i)=det n M:=by
 have H:ML n λM=>det n λi j=>M j i:=by
   refine ⟨λ{M M'} e=>aj λi hi j hj=>e j hj i hi,λM p hp a b x y=>?_,λ{M p} hp e=>kn hp λr hr=>e r hr⟩
   exact gE (λi j=>M j i) hp a b x y
 have u:=H.uniq M
 have i1:(det n λi j=>idQ j i)=1:=by
   rw [<- lC n]
   congr 1
   funext i j
   unfold idQ
   by_cases z:i=j
   · rw [if_pos z,if_pos z.symm]
   · rw [if_neg z,if_neg λy=>z y.symm]
 simp only [i1,Rat.mul_one] at u
 exact u
noncomputable def mulQ (n:Nat) (F H:Nat->Nat->Rat) (i j:Nat):Rat:=ax (λk=>F i k * H k j) n
theorem qF (n:Nat) (A B:Nat->Nat->Rat):det n (mulQ n A B)=det n A * det n B:=by
 have H:ML n λA=>det n (mulQ n A B):=by
   refine ⟨λ{M M'} e=>aj λi hi j hj=>av λk hk=>by rw [e i hi k hk],λM p hp a b x y=>?_,λ{M p} hp e=>fZ hp λc hc=>av λk hk=>by rw [e k hk]⟩
   have e:∀ v,mulQ n (ak M p v) B=ak (mulQ n M B) p λj=>ax (λk=>v k * B k j) n:=λv=>by
     funext r c
     unfold mulQ ak
     split <;> rfl
   rw [e,e,e,<- jx _ hp]
   congr 2
   funext j
   rw [a4,a4,<- dj]
   exact av λk hk=>by grind
 have u:=H.uniq A
 have i1:det n (mulQ n idQ B)=det n B:=aj λi hi j hj=>lF (λk=>B k j) i n hi
 simp only [i1] at u
 exact u
theorem cG (m:Nat):∀ (k:Nat) (M:Nat->Nat->Rat),(∀ i,k<=i->i < k + m->∀ j < k,M i j=0)->det (k + m) M=det k M * det m λi j=>M (k + i) (k + j)
 | 0,M,_=>by
   rw [Nat.zero_add]
   show det m M=1 * _
   rw [Rat.one_mul]
   congr 1
   funext i j
   rw [Nat.zero_add,Nat.zero_add]
 | k + 1,M,h=>by
   have a:k + 1 + m=(k + m) + 1:=by omega
   rw [a,det,det,g9]
   have tail:∀ t,ax (λi=>sgn i * M i 0 * det (k + m) (minor M i)) (k + 1 + t)=ax (λi=>sgn i * M i 0 * det (k + m) (minor M i)) (k + 1)\/¬ t<=m:=by
     intro t
     induction t with
     | zero=>exact .inl rfl
     | succ t ih=>
       by_cases q:t + 1<=m
       · rcases ih with ih | ih
         · refine .inl ?_
           rw [show k + 1 + (t + 1)=(k + 1 + t) + 1 by omega,ax,ih,h (k + 1 + t) (by omega) (by omega) 0 (by omega)]
           grind
         · omega
       · exact .inr q
   rcases tail m with e | e
   · rw [show k + m + 1=k + 1 + m by omega,e]
     refine av λi hi=>?_
     rw [cG m k (minor M i) λr h1 h2 c hc=>?_]
     · have:(λr c=>minor M i (k + r) (k + c))=λr c=>M (k + 1 + r) (k + 1 + c):=by
         funext r c
         unfold minor skp
         rw [if_neg (by omega),show k + r + 1=k + 1 + r by omega,show k + c + 1=k + 1 + c by omega]
       rw [this]
       grind
     · unfold minor skp
       rw [if_neg (by omega)]
       exact h _ (by omega) (by omega) _ (by omega)
   · exact absurd (Nat.le_refl m) e
theorem gC {n k:Nat} (d:Rat) (β:Nat->Nat->Rat) (M:Nat->Nat->Rat):∀ t,k + t<=n->det n (λi j=>if k<=i/\i < k + t then d * M i j + ax (λa=>β i a * M a j) k else M i j)=d ^ t * det n M
 | 0,_=>by
   rw [Rat.pow_zero,Rat.one_mul]
   congr 1
   funext i j
   have n0:¬ (k<=i/\i < k + 0):=by omega
   rw [if_neg n0]
 | t + 1,h=>by
   have ih:=gC (n:=n) (k:=k) d β M t (by omega)
   have c:=(cP n).comb (λi j=>if k<=i/\i < k + t then d * M i j + ax (λa=>β i a * M a j) k else M i j) (p:=k + t) (k:=k) (by omega) (by omega) d (β (k + t))
   rw [ih] at c
   rw [Rat.pow_succ,Rat.mul_comm (d ^ t) d,Rat.mul_assoc,<- c]
   congr 1
   funext i j
   unfold ak
   by_cases q:i=k + t
   · subst q
     have n1:¬ (k<=k + t/\k + t < k + t):=by omega
     have p1:k<=k + t/\k + t < k + (t + 1):=by omega
     rw [if_pos p1,if_pos rfl]
     dsimp only
     rw [if_neg n1]
     congr 1
     exact av λa ha=>by
       have na:¬ (k<=a/\a < k + t):=by omega
       rw [if_neg na]
   · rw [if_neg q]
     dsimp only
     by_cases z:k<=i/\i < k + t
     · rw [if_pos (by omega),if_pos z]
     · rw [if_neg (by omega),if_neg z]
noncomputable def bm (Y:Nat->Nat->Rat) (k p q:Nat):Rat:=det (k + 1) λr c=>Y (if r < k then r else p) (if c < k then c else q)
noncomputable def bc (Y:Nat->Nat->Rat) (k p i:Nat):Rat:=det (k + 1) (ak (λr c=>Y (if c < k then c else p) r) k (idQ i))
theorem eI (M:Nat->Nat->Rat):det 1 M=M 0 0:=by
 show 0 + 1 * M 0 0 * 1=M 0 0
 grind
theorem rh (M:Nat->Nat->Rat):det 2 M=M 0 0 * M 1 1 - M 0 1 * M 1 0:=by
 show 0 + 1 * M 0 0 * det 1 (minor M 0) + -1 * M 1 0 * det 1 (minor M 1)=_
 rw [eI,eI]
 show 0 + 1 * M 0 0 * M 1 1 + -1 * M 1 0 * M 0 1=_
 grind
section
variable {Y:Nat->Nat->Rat} {k p q:Nat}
theorem tE:bm Y k p q=det k Y * Y p q + ax (λi=>bc Y k p i * Y i q) k:=by
 have e:bm Y k p q=det (k + 1) (ak (λr c=>Y (if c < k then c else p) r) k λr=>ax (λc=>Y (if c < k then c else p) q * idQ c r) (k + 1)):=by
   unfold bm
   rw [<- dh]
   refine aj λi hi j hj=>?_
   unfold ak
   by_cases z:i=k
   · subst z
     rw [if_pos rfl,if_neg (Nat.lt_irrefl _)]
     exact (cH (λc=>Y (if c < i then c else p) q) j (i + 1) hj).symm
   · rw [if_neg z,if_pos (show i < k by omega)]
 have last:det (k + 1) (ak (λr c=>Y (if c < k then c else p) r) k (idQ k))=det k Y:=by
   rw [cG 1 k _ λi h1 h2 j hj=>?_,eI]
   · have e1:ak (λr c=>Y (if c < k then c else p) r) k (idQ k) (k + 0) (k + 0)=1:=by
       unfold ak idQ
       rw [if_pos (Nat.add_zero k),if_pos (Nat.add_zero k).symm]
     rw [e1,Rat.mul_one,<- dh]
     refine aj λi hi j hj=>?_
     unfold ak
     rw [if_neg (by omega)]
     dsimp only
     rw [if_pos hi]
   · have:i=k:=by omega
     subst this
     unfold ak idQ
     rw [if_pos rfl,if_neg (by omega)]
 rw [e,(cP (k + 1)).sum _ (Nat.lt_succ_self k),ax,last,if_neg (Nat.lt_irrefl _),Rat.add_comm,Rat.mul_comm (Y p q)]
 congr 1
 exact av λi hi=>by rw [if_pos hi,Rat.mul_comm]; rfl
theorem qR (h:q < k):bm Y k p q=0:=by
 unfold bm
 rw [<- dh]
 refine (cP (k + 1)).same (p:=q) (q:=k) (by omega) (by omega) (by omega) ?_
 funext r
 rw [if_pos h,if_neg (Nat.lt_irrefl _)]
theorem jc:bm Y k k k=det (k + 1) Y:=by
 refine aj λi hi j hj=>?_
 have:∀ r,r < k + 1->(if r < k then r else k)=r:=λr hr=>by split <;> omega
 rw [this i hi,this j hj]
theorem mI {i j:Nat} (h0:det k Y ≠ 0):det k Y * bm Y (k + 1) i j=bm Y k k k * bm Y k i j - bm Y k k j * bm Y k i k:=by
 let W:Nat->Nat->Rat:=λr c=>Y (if r < k + 1 then r else i) (if c < k + 1 then c else j)
 have e:=gC (n:=k + 2) (k:=k) (det k Y) (λr a=>bc Y k (if r < k + 1 then r else i) a) W 2 (Nat.le_refl _)
 have ent:∀ r c,(if k<=r/\r < k + 2 then det k Y * W r c + ax (λa=>bc Y k (if r < k + 1 then r else i) a * W a c) k else W r c)=if k<=r/\r < k + 2 then bm Y k (if r < k + 1 then r else i) (if c < k + 1 then c else j) else W r c:=λr c=>by
   by_cases z:k<=r/\r < k + 2
   · rw [if_pos z,if_pos z,tE]
     congr 1
     exact av λa ha=>by simp only [W]; rw [if_pos (show a < k + 1 by omega)]
   · rw [if_neg z,if_neg z]
 simp only [ent] at e
 rw [cG 2 k _ λr h1 h2 c hc=>?_,rh] at e
 · have a0:k<=k + 0/\k + 0 < k + 2:=by omega
   have a1:k<=k + 1/\k + 1 < k + 2:=by omega
   have b0:k + 0 < k + 1:=by omega
   have b1:¬ k + 1 < k + 1:=by omega
   rw [if_pos a0,if_pos a1,if_pos a0,if_pos a1,if_pos b0,if_neg b1,if_pos b0,if_neg b1,Nat.add_zero] at e
   have dk:(det k λr c=>if k<=r/\r < k + 2 then bm Y k (if r < k + 1 then r else i) (if c < k + 1 then c else j) else W r c)=det k Y:=aj λr hr c hc=>by
     rw [if_neg (by omega)]
     simp only [W]
     rw [if_pos (by omega),if_pos (by omega)]
   rw [dk] at e
   have dw:det (k + 2) W=bm Y (k + 1) i j:=rfl
   rw [dw] at e
   have c:=Rat.inv_mul_cancel (det k Y) h0
   have p2:det k Y ^ 2=det k Y * det k Y:=by rw [Rat.pow_succ,Rat.pow_succ,Rat.pow_zero,Rat.one_mul]
   rw [p2] at e
   have e2:(det k Y)⁻¹ * (det k Y * det k Y * bm Y (k + 1) i j)=(det k Y)⁻¹ * (det k Y * (bm Y k k k * bm Y k i j - bm Y k k j * bm Y k i k)):=congrArg _ e.symm
   rw [Rat.mul_assoc,<- Rat.mul_assoc,c,Rat.one_mul,<- Rat.mul_assoc,c,Rat.one_mul] at e2
   exact e2
 · rw [if_pos ⟨h1,h2⟩,if_pos (show c < k + 1 by omega)]
   exact qR hc
noncomputable def rho (k m r:Nat):Nat:=if r < k then r else if r=k then k + m else if r<=k + m then r - 1 else r
theorem eR {n:Nat}:∀ (m:Nat) (Y:Nat->Nat->Rat),k + m < n->(det n λr=>Y (rho k m r))=sgn m * det n Y
 | 0,Y,_=>by
   have:(λr=>Y (rho k 0 r))=Y:=by
     funext r
     congr 1
     unfold rho
     split
     · rfl
     · split
       · omega
       · split <;> omega
   rw [this]
   show _=1 * _
   rw [Rat.one_mul]
 | m + 1,Y,h=>by
   have ih:=eR (n:=n) m (ak (ak Y (k + m) (Y (k + m + 1))) (k + m + 1) (Y (k + m))) (by omega)
   have s:=(cP n).nb Y (p:=k + m) (by omega) (Y (k + m + 1)) (Y (k + m))
   rw [a8,a8] at s
   rw [s] at ih
   rw [cI]
   have e:(λr=>ak (ak Y (k + m) (Y (k + m + 1))) (k + m + 1) (Y (k + m)) (rho k m r))=λr=>Y (rho k (m + 1) r):=by
     funext r
     by_cases z:rho k m r=k + m + 1
     · rw [z,bb]
       congr 1
       unfold rho at z ⊢
       split at z
       · omega
       · split at z
         · omega
         · split at z
           · omega
           · rename_i a b c
             rw [if_neg a,if_neg b,if_pos (by omega)]
             omega
     · rw [a9 z]
       by_cases y:rho k m r=k + m
       · rw [y,bb]
         congr 1
         unfold rho at y z ⊢
         split at y
         · omega
         · split at y
           · rename_i a b
             rw [if_neg a,if_pos b]
             omega
           · split at y
             · omega
             · omega
       · rw [a9 y]
         congr 1
         unfold rho at y z ⊢
         split at y
         · rename_i a
           rw [if_pos a,if_pos a]
         · rename_i a
           rw [if_neg a] at z
           split at y
           · omega
           · rename_i b
             rw [if_neg b] at z
             rw [if_neg a,if_neg b,if_neg a,if_neg b]
             split at y
             · rename_i c
               rw [if_pos c,if_pos (by omega)]
             · rename_i c
               rw [if_neg c] at z
               rw [if_neg c,if_neg (by omega)]
   rw [e] at ih
   rw [ih]
   grind
end
noncomputable def eW (s:Nat->Rat):Nat->Rat
 | 0=>1
 | n + 1=>eW s n * s n
theorem dN {n:Nat} (s:Nat->Rat) (M:Nat->Nat->Rat):∀ t,t<=n->det n (λi j=>if i < t then s i * M i j else M i j)=eW s t * det n M
 | 0,_=>by
   rw [eW,Rat.one_mul]
   exact aj λi _ j _=>if_neg (Nat.not_lt_zero _)
 | t + 1,h=>by
   have ih:=dN (n:=n) s M t (by omega)
   have c:=(cP n).comb (λi j=>if i < t then s i * M i j else M i j) (p:=t) (k:=0) (by omega) (Nat.zero_le _) (s t) (λ_=>0)
   rw [ih] at c
   rw [eW,Rat.mul_comm (eW s t),Rat.mul_assoc,<- c]
   refine aj λi _ j _=>?_
   unfold ak
   by_cases q:i=t
   · subst q
     rw [if_pos (Nat.lt_succ_self i),if_pos rfl]
     dsimp only
     rw [if_neg (Nat.lt_irrefl i)]
     show _=_ + 0
     rw [Rat.add_zero]
   · rw [if_neg q]
     dsimp only
     by_cases z:i < t
     · rw [if_pos (by omega),if_pos z]
     · rw [if_neg (by omega),if_neg z]
noncomputable def lim:Nat:=2 ^ 3900
theorem kB (m:Nat) (Y:Nat->Nat->Rat):det (m + 1) Y=ax (λc=>sgn (m + c) * Y m c * det m λr q=>Y r (skp c q)) (m + 1):=by
 have e1:=eR (k:=0) (n:=m + 1) m Y (by omega)
 have e2:=dh (m + 1) λr=>Y (rho 0 m r)
 rw [det] at e2
 have r0:rho 0 m 0=m:=by unfold rho; rw [if_neg (by omega),if_pos rfl]; omega
 have rs:∀ r,r < m->rho 0 m (r + 1)=r:=λr hr=>by
   unfold rho
   rw [if_neg (by omega),if_neg (by omega),if_pos (by omega)]
   omega
 have e3:ax (λc=>sgn c * Y m c * det m λr q=>Y r (skp c q)) (m + 1)=sgn m * det (m + 1) Y:=by
   rw [<- e1,<- e2]
   refine av λc _=>?_
   rw [r0,<- dh m]
   congr 1
   exact aj λr hr q hq=>by
     unfold minor
     dsimp only
     rw [rs q hq]
 have sm:∀ c,sgn (m + c)=sgn m * sgn c:=λc=>by
   induction c with
   | zero=>rw [Nat.add_zero,show sgn 0=1 from rfl,Rat.mul_one]
   | succ c ih=>rw [<- Nat.add_assoc,cI,ih,cI]; grind
 have:ax (λc=>sgn (m + c) * Y m c * det m λr q=>Y r (skp c q)) (m + 1)=sgn m * ax (λc=>sgn c * Y m c * det m λr q=>Y r (skp c q)) (m + 1):=by
   rw [a4]
   refine av λc _=>?_
   rw [sm]
   grind
 rw [this,e3,<- Rat.mul_assoc,dB,Rat.one_mul]
noncomputable def fh (M:Nat->Nat->Rat) (L:List Nat):Rat:=det L.length λr c=>M r (L.getD c 0)
theorem kW {M:Nat->Nat->Rat} {L:List Nat} {m:Nat} (h:L.length=m + 1):fh M L=ax (λc=>sgn (m - c) * M m (L.getD c 0) * fh M (L.eraseIdx c)) (m + 1):=by
 unfold fh
 rw [h,kB]
 refine av λc hc=>?_
 have e1:sgn (m + c)=sgn (m - c):=by
   unfold sgn
   by_cases z:(m + c) % 2=0
   · rw [if_pos z,if_pos (by omega)]
   · rw [if_neg z,if_neg (by omega)]
 have e2:(L.eraseIdx c).length=m:=by rw [List.length_eraseIdx_of_lt (by omega)]; omega
 rw [e1,e2]
 refine congrArg (λx=>sgn (m - c) * M m (L.getD c 0) * x) (aj λr _ q hq=>?_)
 rw [List.getD_eq_getElem?_getD,List.getD_eq_getElem?_getD,List.getElem?_eraseIdx]
 unfold skp
 split <;> rfl
noncomputable def above (n j S:Nat):List Nat:=((List.range (n - (j + 1))).map (j + 1 + ·)).filter λk=>S.testBit k
theorem gx (g:Nat->Rat):∀ n,ax g (n + 1)=g 0 + ax (λk=>g (k + 1)) n
 | 0=>by simp only [ax,Rat.add_zero,Rat.zero_add]
 | n + 1=>by
   rw [ax,gx g n,ax,Rat.add_assoc]
section
variable {P:Program} {w:World} {K:PySem.W.Frag} {mg:Str->Option Value} {base:Heap} {k:Nat} {f:Addr} {fd:FuncData} {qual:Str}
end
noncomputable def mi (M:Nat->Nat->Rat) (k:Nat) (ρ γ:Nat->Nat):Rat:=det k λr c=>M (ρ r) (γ c)
theorem j3 {M:Nat->Nat->Rat} {k:Nat} {ρ ρ' γ γ':Nat->Nat} (h:∀ i < k,ρ i=ρ' i) (h':∀ i < k,γ i=γ' i):mi M k ρ γ=mi M k ρ' γ':=aj λi hi j hj=>by rw [h i hi,h' j hj]
theorem vL (M:Nat->Nat->Rat) (k:Nat) (ρ γ:Nat->Nat):mi (λi j=>M j i) k γ ρ=mi M k ρ γ:=dh k λr c=>M (ρ r) (γ c)
theorem bK {n k:Nat} (m:Nat) (Y:Nat->Nat->Rat) (h:k + m < n):(det n λr c=>Y r (rho k m c))=sgn m * det n Y:=by
 rw [<- dh n Y,<- eR (k:=k) m (λi j=>Y j i) h]
 exact (dh n λi j=>Y j (rho k m i))
theorem rD {d x y:Rat} (h:d ≠ 0) (e:d * x=d * y):x=y:=by
 have:=congrArg (d⁻¹ * ·) e
 simp only [<- Rat.mul_assoc,Rat.inv_mul_cancel d h,Rat.one_mul] at this
 exact this
noncomputable def k2 (Y:Nat->Nat->Rat) (s x y:Nat):Rat:=det (s + 2) λr c=>Y r (if c < s then c else if c=s then x else y)
theorem pO {s:Nat} {Y:Nat->Nat->Rat} (h0:det s Y ≠ 0) (x y:Nat):det s Y * k2 Y s x y=bm Y s s x * bm Y s (s + 1) y - bm Y s s y * bm Y s (s + 1) x:=by
 have e0:(det s λr c=>Y r (if c < s then c else if c=s then x else y))=det s Y:=aj λi hi j hj=>by rw [if_pos hj]
 have st:=mI (Y:=λr c=>Y r (if c < s then c else if c=s then x else y)) (k:=s) (i:=s + 1) (j:=s + 1) (by rw [e0]; exact h0)
 have e1:∀ p,bm (λr c=>Y r (if c < s then c else if c=s then x else y)) s p s=bm Y s p x:=λp=>by
   unfold bm
   refine aj λi hi j hj=>?_
   by_cases z:j < s
   · simp [z]
   · simp [z]
 have e2:∀ p,bm (λr c=>Y r (if c < s then c else if c=s then x else y)) s p (s + 1)=bm Y s p y:=λp=>by
   unfold bm
   refine aj λi hi j hj=>?_
   by_cases z:j < s
   · simp [z]
   · simp only [if_neg z,if_neg (show ¬s + 1 < s by omega),if_neg (show ¬s + 1=s by omega)]
 rw [jc,e0,e1,e1,e2,e2] at st
 exact st
theorem three {s:Nat} {Y:Nat->Nat->Rat} (h0:det s Y ≠ 0) (x y z:Nat):k2 Y s x z * bm Y s s y=k2 Y s y z * bm Y s s x + k2 Y s x y * bm Y s s z:=by
 have h1:=pO h0 x z
 have h2:=pO h0 y z
 have h3:=pO h0 x y
 generalize det s Y=d at h0 h1 h2 h3
 generalize k2 Y s x z=p at h1 ⊢
 generalize k2 Y s y z=q at h2 ⊢
 generalize k2 Y s x y=r at h3 ⊢
 generalize bm Y s s x=a at h1 h2 h3 ⊢
 generalize bm Y s s y=b at h1 h2 h3 ⊢
 generalize bm Y s s z=c at h1 h2 h3 ⊢
 generalize bm Y s (s + 1) x=a' at h1 h2 h3
 generalize bm Y s (s + 1) y=b' at h1 h2 h3
 generalize bm Y s (s + 1) z=c' at h1 h2 h3
 have e:d * (p * b)=d * (q * a + r * c):=by grind
 exact rD h0 e
noncomputable def dlt (γ:Nat->Nat) (j p c:Nat):Nat:=if c < j then γ (c + 1) else if c=j then p else γ c
noncomputable def eta (γ:Nat->Nat) (j p c:Nat):Nat:=if c<=j then γ c else if c=j + 1 then p else γ (c - 1)
noncomputable def clY (γ:Nat->Nat) (s p c:Nat):Nat:=if c < s then γ (c + 1) else if c=s then γ 0 else if c=s + 1 then p else γ (s + 1)
theorem plu {M:Nat->Nat->Rat} {ρ γ:Nat->Nat} {s j p:Nat} (hj:j<=s) (h0:mi M s ρ (λc=>γ (c + 1)) ≠ 0) :
   mi M (s + 1) ρ (dlt γ j p) * mi M (s + 2) ρ γ=mi M (s + 1) ρ γ * mi M (s + 2) ρ (dlt γ j p) + mi M (s + 1) ρ (λc=>γ (c + 1)) * mi M (s + 2) ρ (eta γ j p):=by
 have hY:det s (λr c=>M (ρ r) (clY γ s p c))=mi M s ρ (λc=>γ (c + 1)):=aj λi hi q hq=>by unfold clY; rw [if_pos hq]
 have t:=three (Y:=λr c=>M (ρ r) (clY γ s p c)) (s:=s) (by rw [hY]; exact h0) s (s + 1) (s + 2)
 have b1:mi M (s + 1) ρ γ=sgn s * bm (λr c=>M (ρ r) (clY γ s p c)) s s s:=by
   unfold bm
   rw [<- bK (k:=0) s _ (by omega)]
   refine aj λi hi q hq=>?_
   have e1:(if i < s then i else s)=i:=by split <;> omega
   rw [e1]
   refine congrArg (M (ρ i)) ?_
   unfold rho clY
   rcases Nat.eq_zero_or_pos q with z | z
   · subst z
     simp
   · simp only [if_neg (show ¬q < 0 by omega),if_neg (show ¬q=0 by omega),if_pos (show q<=0 + s by omega),if_pos (show q - 1 < s by omega)]
     rw [show q - 1 + 1=q by omega]
 have b3:mi M (s + 1) ρ (λc=>γ (c + 1))=bm (λr c=>M (ρ r) (clY γ s p c)) s s (s + 2):=by
   unfold bm
   refine aj λi hi q hq=>?_
   have e1:(if i < s then i else s)=i:=by split <;> omega
   rw [e1]
   refine congrArg (M (ρ i)) ?_
   unfold clY
   by_cases z:q < s
   · simp only [if_pos z]
   · simp only [if_neg z,if_neg (show ¬s + 2 < s by omega),if_neg (show ¬s + 2=s by omega),if_neg (show ¬s + 2=s + 1 by omega)]
     rw [show q=s by omega]
 have b2:mi M (s + 1) ρ (dlt γ j p)=sgn (s - j) * bm (λr c=>M (ρ r) (clY γ s p c)) s s (s + 1):=by
   unfold bm
   rw [<- bK (k:=j) (s - j) _ (by omega)]
   refine aj λi hi q hq=>?_
   have e1:(if i < s then i else s)=i:=by split <;> omega
   rw [e1]
   refine congrArg (M (ρ i)) ?_
   unfold rho clY dlt
   by_cases z:q < j
   · simp only [if_pos z,if_pos (show q < s by omega)]
   · by_cases z2:q=j
     · simp only [if_neg z,if_pos z2,if_neg (show ¬j + (s - j) < s by omega),if_neg (show ¬s + 1 < s by omega),if_neg (show ¬s + 1=s by omega),if_pos]
     · simp only [if_neg z,if_neg z2,if_pos (show q<=j + (s - j) by omega),if_pos (show q - 1 < s by omega)]
       rw [show q - 1 + 1=q by omega]
 have k13:mi M (s + 2) ρ γ=sgn s * k2 (λr c=>M (ρ r) (clY γ s p c)) s s (s + 2):=by
   unfold k2
   rw [<- bK (k:=0) s _ (by omega)]
   refine aj λi hi q hq=>?_
   refine congrArg (M (ρ i)) ?_
   unfold rho clY
   rcases Nat.eq_zero_or_pos q with z | z
   · subst z
     simp
   · by_cases z2:q<=s
     · simp only [if_neg (show ¬q < 0 by omega),if_neg (show ¬q=0 by omega),if_pos (show q<=0 + s by omega),if_pos (show q - 1 < s by omega)]
       rw [show q - 1 + 1=q by omega]
     · simp only [if_neg (show ¬q < 0 by omega),if_neg (show ¬q=0 by omega),if_neg (show ¬q<=0 + s by omega),if_neg (show ¬q < s by omega),if_neg (show ¬q=s by omega),if_neg (show ¬s + 2 < s by omega),if_neg (show ¬s + 2=s by omega),if_neg (show ¬s + 2=s + 1 by omega)]
       rw [show q=s + 1 by omega]
 have k23:mi M (s + 2) ρ (dlt γ j p)=sgn (s - j) * k2 (λr c=>M (ρ r) (clY γ s p c)) s (s + 1) (s + 2):=by
   unfold k2
   rw [<- bK (k:=j) (s - j) _ (by omega)]
   refine aj λi hi q hq=>?_
   refine congrArg (M (ρ i)) ?_
   unfold rho clY dlt
   by_cases z:q < j
   · simp only [if_pos z,if_pos (show q < s by omega)]
   · by_cases z2:q=j
     · simp only [if_neg z,if_pos z2,if_neg (show ¬j + (s - j) < s by omega),if_pos (show j + (s - j)=s by omega),if_neg (show ¬s + 1 < s by omega),if_neg (show ¬s + 1=s by omega),if_pos]
     · by_cases z3:q<=s
       · simp only [if_neg z,if_neg z2,if_pos (show q<=j + (s - j) by omega),if_pos (show q - 1 < s by omega)]
         rw [show q - 1 + 1=q by omega]
       · simp only [if_neg z,if_neg z2,if_neg (show ¬q<=j + (s - j) by omega),if_neg (show ¬q < s by omega),if_neg (show ¬q=s by omega),if_neg (show ¬s + 2 < s by omega),if_neg (show ¬s + 2=s by omega),if_neg (show ¬s + 2=s + 1 by omega)]
         rw [show q=s + 1 by omega]
 have k12:mi M (s + 2) ρ (eta γ j p)=sgn (s - j) * (sgn s * k2 (λr c=>M (ρ r) (clY γ s p c)) s s (s + 1)):=by
   unfold k2
   rw [<- bK (k:=0) s _ (by omega),<- bK (k:=j + 1) (s - j) _ (by omega)]
   refine aj λi hi q hq=>?_
   refine congrArg (M (ρ i)) ?_
   have in_:∀ c,c<=s->clY γ s p (if rho 0 s c < s then rho 0 s c else if rho 0 s c=s then s else s + 1)=γ c:=λc hc=>by
     unfold rho clY
     rcases Nat.eq_zero_or_pos c with z | z
     · subst z
       simp
     · simp only [if_neg (show ¬c < 0 by omega),if_neg (show ¬c=0 by omega),if_pos (show c<=0 + s by omega),if_pos (show c - 1 < s by omega)]
       rw [show c - 1 + 1=c by omega]
   have il:clY γ s p (if rho 0 s (s + 1) < s then rho 0 s (s + 1) else if rho 0 s (s + 1)=s then s else s + 1)=p:=by
     have:rho 0 s (s + 1)=s + 1:=by unfold rho; (repeat' split) <;> omega
     rw [this]
     unfold clY
     simp only [if_neg (show ¬s + 1 < s by omega),if_neg (show ¬s + 1=s by omega),if_pos]
   show eta γ j p q=clY γ s p (if rho 0 s (rho (j + 1) (s - j) q) < s then rho 0 s (rho (j + 1) (s - j) q) else if rho 0 s (rho (j + 1) (s - j) q)=s then s else s + 1)
   unfold eta
   by_cases z:q<=j
   · rw [if_pos z,show rho (j + 1) (s - j) q=q by unfold rho; rw [if_pos (by omega)],in_ q (by omega)]
   · rw [if_neg z]
     by_cases z2:q=j + 1
     · rw [if_pos z2,show rho (j + 1) (s - j) q=s + 1 by unfold rho; rw [if_neg (by omega),if_pos z2]; omega,il]
     · rw [if_neg z2,show rho (j + 1) (s - j) q=q - 1 by unfold rho; rw [if_neg (by omega),if_neg z2,if_pos (by omega)],in_ (q - 1) (by omega)]
 have q1:=dB s
 have q2:=dB (s - j)
 rw [b1,b2,b3,k13,k23,k12]
 generalize bm (λr c=>M (ρ r) (clY γ s p c)) s s s=x1 at t ⊢
 generalize bm (λr c=>M (ρ r) (clY γ s p c)) s s (s + 1)=x2 at t ⊢
 generalize bm (λr c=>M (ρ r) (clY γ s p c)) s s (s + 2)=x3 at t ⊢
 generalize k2 (λr c=>M (ρ r) (clY γ s p c)) s s (s + 2)=y13 at t ⊢
 generalize k2 (λr c=>M (ρ r) (clY γ s p c)) s (s + 1) (s + 2)=y23 at t ⊢
 generalize k2 (λr c=>M (ρ r) (clY γ s p c)) s s (s + 1)=y12 at t ⊢
 generalize sgn s=u at q1 ⊢
 generalize sgn (s - j)=v at q2 ⊢
 grind
noncomputable def Inc (k:Nat) (γ:Nat->Nat):Prop:=∀ i,i + 1 < k->γ i < γ (i + 1)
theorem Inc.lt {k:Nat} {γ:Nat->Nat} (h:Inc k γ):∀ (d i:Nat),i + d + 1 < k->γ i < γ (i + d + 1)
 | 0,i,hi=>h i hi
 | d + 1,i,hi=>Nat.lt_trans (h.lt d i (by omega)) (h (i + d + 1) hi)
theorem Inc.mono {k:Nat} {γ:Nat->Nat} (h:Inc k γ) {i j:Nat} (hij:i < j) (hj:j < k):γ i < γ j:=by
 have:=h.lt (j - i - 1) i (by omega)
 rwa [show i + (j - i - 1) + 1=j by omega] at this
theorem Inc.le {k l:Nat} {γ:Nat->Nat} (h:Inc k γ) (hl:l<=k):Inc l γ:=λi hi=>h i (by omega)
theorem Inc.up {k:Nat} {γ:Nat->Nat} (h:Inc (k + 1) γ):Inc k λc=>γ (c + 1):=λi hi=>h (i + 1) (by omega)
theorem Inc.dlt {k j p:Nat} {γ:Nat->Nat} (h:Inc k γ) (h1:γ j < p) (h2:p < γ (j + 1)) (hj:j + 1 < k):Inc k (dlt γ j p):=λi hi=>by
 unfold K40.dlt
 by_cases z:i + 1 < j
 · rw [if_pos (by omega),if_pos z]
   exact h (i + 1) (by omega)
 · by_cases z2:i + 1=j
   · rw [if_pos (by omega),if_neg z,if_pos z2,z2]
     exact h1
   · rw [if_neg (by omega),if_neg z,if_neg z2]
     by_cases z3:i=j
     · rw [if_pos z3,z3]
       exact h2
     · rw [if_neg z3]
       exact h i hi
theorem Inc.eta {k j p:Nat} {γ:Nat->Nat} (h:Inc k γ) (h1:γ j < p) (h2:p < γ (j + 1)) (hj:j + 1 < k):Inc k (eta γ j p):=λi hi=>by
 unfold K40.eta
 by_cases z:i + 1<=j
 · rw [if_pos (by omega),if_pos z]
   exact h i hi
 · by_cases z2:i=j
   · rw [if_pos (by omega),if_neg z,if_pos (by omega),z2]
     exact h1
   · by_cases z3:i=j + 1
     · rw [if_neg (by omega),if_pos z3,if_neg z,if_neg (by omega),show i + 1 - 1=j + 1 by omega]
       exact h2
     · rw [if_neg (by omega),if_neg z3,if_neg z,if_neg (by omega),show i + 1 - 1=i - 1 + 1 by omega]
       exact h (i - 1) (by omega)
theorem Inc.gap {k:Nat} {γ:Nat->Nat} (h:Inc k γ):(∀ i < k,γ i=γ 0 + i)\/∃ j,j + 1 < k/\γ j + 1 < γ (j + 1):=by
 induction k with
 | zero=>exact .inl λi hi=>by omega
 | succ k ih=>
   rcases ih (h.le (by omega)) with g | ⟨j,h1,h2⟩
   · by_cases z:k=0
     · exact .inl λi hi=>by rw [show i=0 by omega]; rfl
     · have:=h (k - 1) (by omega)
       rw [show k - 1 + 1=k by omega] at this
       have g1:=g (k - 1) (by omega)
       by_cases y:γ (k - 1) + 1 < γ k
       · exact .inr ⟨k - 1,by omega,by rw [show k - 1 + 1=k by omega]; exact y⟩
       · refine .inl λi hi=>?_
         by_cases x:i=k
         · subst x; omega
         · exact g i (by omega)
   · exact .inr ⟨j,by omega,h2⟩
theorem jA {x y:Rat} (hx:0 < x) (h:0 < x * y):0 < y:=by
 refine Rat.not_le.mp λz=>?_
 have:=Rat.mul_nonneg (Rat.le_of_lt hx) (show 0<=-y by grind)
 rw [Rat.mul_neg] at this
 grind
theorem u6 {M:Nat->Nat->Rat} {m:Nat} {ρ:Nat->Nat} {N:Nat} (h:∀ k a,k<=N->1<=k->a + k<=m->0 < mi M k ρ (λc=>a + c)) :
   ∀ k,k<=N->∀ d γ,Inc k γ->(1<=k->γ (k - 1) < m)->γ (k - 1) - γ 0<=d->0 < mi M k ρ γ:=by
 intro k
 induction k using Nat.strongRecOn with
 | ind k ihk=>
   intro hN d
   have sub:∀ l,l < k->∀ γ',Inc l γ'->(1<=l->γ' (l - 1) < m)->0 < mi M l ρ γ':=λl hl γ' hi hm=>ihk l hl (by omega) (γ' (l - 1)) γ' hi hm (by omega)
   have flat:∀ γ,(1<=k->γ (k - 1) < m)->(∀ i < k,γ i=γ 0 + i)->0 < mi M k ρ γ:=λγ hm g=>by
     by_cases z:k=0
     · subst z
       show (0:Rat) < 1
       decide
     · rw [j3 (ρ':=ρ) (γ':=λc=>γ 0 + c) (λ_ _=>rfl) g]
       have:=g (k - 1) (by omega)
       have:=hm (by omega)
       exact h k (γ 0) hN (by omega) (by omega)
   induction d with
   | zero=>
     intro γ hi hm hd
     rcases hi.gap with g | ⟨j,h1,h2⟩
     · exact flat γ hm g
     · have l1:γ 0<=γ j:=by
         by_cases z:j=0
         · subst z; exact Nat.le_refl _
         · exact Nat.le_of_lt (hi.mono (by omega) (by omega))
       have l2:γ (j + 1)<=γ (k - 1):=by
         by_cases z:j + 1=k - 1
         · rw [z]; exact Nat.le_refl _
         · exact Nat.le_of_lt (hi.mono (by omega) (by omega))
       omega
   | succ d ihd=>
     intro γ hi hm hd
     rcases hi.gap with g | ⟨j,h1,h2⟩
     · exact flat γ hm g
     · obtain ⟨s,rfl⟩:∃ s,k=s + 2:=⟨k - 2,by omega⟩
       have hm':γ (s + 1) < m:=hm (by omega)
       have hd':γ (s + 1) - γ 0<=d + 1:=hd
       have g1:γ j < γ j + 1:=Nat.lt_succ_self _
       have i1:=hi.dlt g1 h2 h1
       have i2:=hi.eta g1 h2 h1
       have l0:γ 0 < γ (s + 1):=hi.mono (by omega) (by omega)
       have d1:dlt γ j (γ j + 1) (s + 1)=γ (s + 1):=by
         unfold dlt
         rw [if_neg (by omega),if_neg (by omega)]
       have d0:γ 0 < dlt γ j (γ j + 1) 0:=by
         unfold dlt
         by_cases z:0 < j
         · rw [if_pos z]; exact hi 0 (by omega)
         · rw [if_neg z,if_pos (by omega),show j=0 by omega]; exact Nat.lt_succ_self _
       have e0:eta γ j (γ j + 1) 0=γ 0:=by
         unfold eta
         rw [if_pos (by omega)]
       have e1:eta γ j (γ j + 1) (s + 1) < γ (s + 1):=by
         unfold eta
         rw [if_neg (by omega)]
         by_cases z:s + 1=j + 1
         · rw [if_pos z,z]; exact h2
         · rw [if_neg z]; exact hi s (by omega)
       have ds:dlt γ j (γ j + 1) s < m:=Nat.lt_trans (i1 s (by omega)) (by rw [d1]; exact hm')
       have s0:=sub s (by omega) (λc=>γ (c + 1)) (hi.le (show s + 1<=s + 2 by omega)).up λq=>by
         show γ (s - 1 + 1) < m
         rw [show s - 1 + 1=s by omega]
         exact Nat.lt_trans (hi s (by omega)) hm'
       have p:=plu (M:=M) (ρ:=ρ) (γ:=γ) (s:=s) (j:=j) (p:=γ j + 1) (by omega) (by intro z; rw [z] at s0; exact Rat.lt_irrefl s0)
       have s1:=sub (s + 1) (by omega) (dlt γ j (γ j + 1)) (i1.le (by omega)) λ_=>ds
       have s2:=sub (s + 1) (by omega) γ (hi.le (by omega)) λ_=>Nat.lt_trans (hi s (by omega)) hm'
       have s3:=sub (s + 1) (by omega) (λc=>γ (c + 1)) hi.up λ_=>hm'
       have t1:=ihd (dlt γ j (γ j + 1)) i1 (λ_=>by show dlt γ j (γ j + 1) (s + 1) < m; rw [d1]; exact hm') (by show dlt γ j (γ j + 1) (s + 1) - _<=d; rw [d1]; omega)
       have t2:=ihd (eta γ j (γ j + 1)) i2 (λ_=>by show eta γ j (γ j + 1) (s + 1) < m; omega) (by show eta γ j (γ j + 1) (s + 1) - _<=d; rw [e0]; omega)
       refine jA s1 ?_
       rw [p]
       have u1:=Rat.mul_pos s2 t1
       have u2:=Rat.mul_pos s3 t2
       grind
theorem fek {M:Nat->Nat->Rat} {n m:Nat} (h:∀ k a b,1<=k->a + k<=n->b + k<=m->0 < mi M k (λr=>a + r) (λc=>b + c)) {k:Nat} {ρ γ:Nat->Nat} (hρ:Inc k ρ) (hγ:Inc k γ) (h1:1<=k->ρ (k - 1) < n) (h2:1<=k->γ (k - 1) < m):0 < mi M k ρ γ:=by
 rw [<- vL]
 refine u6 (m:=n) (N:=k) (λl a hl h1l ha=>?_) k (Nat.le_refl _) _ ρ hρ h1 (Nat.le_refl _)
 rw [vL]
 refine u6 (m:=m) (N:=l) (λl' b hl' h1' hb=>?_) l (Nat.le_refl _) _ γ (hγ.le hl) (λq=>?_) (Nat.le_refl _)
 · exact h l' a b h1' (by omega) hb
 · by_cases z:l=k
   · subst z; exact h2 h1l
   · exact Nat.lt_trans (hγ.mono (show l - 1 < k - 1 by omega) (by omega)) (h2 (by omega))
noncomputable def sld (M:Nat->Nat->Rat) (a b k:Nat):Rat:=mi M k (λr=>a + r) (λc=>b + c)
noncomputable def ix1 (a t r:Nat):Nat:=if r < t then a + 1 + r else if r=t then a else a + t + 1
theorem gb {a t r:Nat} (h:r<=t + 1):ix1 a t (rho 0 t r)=a + r:=by
 have e:rho 0 t r=if r=0 then t else if r<=t then r - 1 else r:=by
   unfold rho
   simp
 rw [e]
 unfold ix1
 by_cases z:r=0
 · rw [if_pos z,if_neg (by omega),if_pos rfl]; omega
 · rw [if_neg z]
   by_cases y:r<=t
   · rw [if_pos y,if_pos (by omega)]; omega
   · rw [if_neg y,if_neg (by omega),if_neg (by omega)]; omega
theorem pL {a t r:Nat} (h:r < t):ix1 a t r=a + 1 + r:=if_pos h
theorem wa {M:Nat->Nat->Rat} {a b t:Nat} (h0:sld M (a + 1) (b + 1) t ≠ 0):sld M (a + 1) (b + 1) t * sld M a b (t + 2)=sld M a b (t + 1) * sld M (a + 1) (b + 1) (t + 1) - sld M a (b + 1) (t + 1) * sld M (a + 1) b (t + 1):=by
 have hY:det t (λr c=>M (ix1 a t r) (ix1 b t c))=sld M (a + 1) (b + 1) t:=aj λi hi j hj=>by rw [pL hi,pL hj]
 have st:=mI (Y:=λr c=>M (ix1 a t r) (ix1 b t c)) (k:=t) (i:=t + 1) (j:=t + 1) (by rw [hY]; exact h0)
 rw [jc,jc,hY] at st
 have q:=dB t
 have both:∀ n,t < n->n<=t + 2->det n (λr c=>M (ix1 a t r) (ix1 b t c))=sld M a b n:=λn hn hn2=>by
   have e:sld M a b n=det n λr c=>M (ix1 a t (rho 0 t r)) (ix1 b t (rho 0 t c)):=aj λi hi j hj=>by rw [gb (by omega),gb (by omega)]
   rw [e,eR (k:=0) t (λr c=>M (ix1 a t r) (ix1 b t (rho 0 t c))) (by omega),bK (k:=0) t (λr c=>M (ix1 a t r) (ix1 b t c)) (by omega),<- Rat.mul_assoc,q,Rat.one_mul]
 have e3:bm (λr c=>M (ix1 a t r) (ix1 b t c)) t (t + 1) (t + 1)=sld M (a + 1) (b + 1) (t + 1):=by
   unfold bm sld mi
   refine aj λi hi j hj=>?_
   have f:∀ x i,i < t + 1->ix1 x t (if i < t then i else t + 1)=x + 1 + i:=λx i hi=>by
     unfold ix1
     by_cases z:i < t
     · rw [if_pos z,if_pos z]
     · rw [if_neg z,if_neg (by omega),if_neg (by omega)]; omega
   show M (ix1 a t _) (ix1 b t _)=_
   rw [f a i hi,f b j hj]
 have f:∀ x i,i < t + 1->ix1 x t (if i < t then i else t + 1)=x + 1 + i:=λx i hi=>by
   unfold ix1
   by_cases z:i < t
   · rw [if_pos z,if_pos z]
   · rw [if_neg z,if_neg (by omega),if_neg (by omega)]; omega
 have g:∀ i,i < t + 1->(if i < t then i else t)=i:=λi hi=>by split <;> omega
 have e4:sld M a (b + 1) (t + 1)=sgn t * bm (λr c=>M (ix1 a t r) (ix1 b t c)) t t (t + 1):=by
   unfold bm sld mi
   rw [<- eR (k:=0) t _ (by omega)]
   refine aj λi hi j hj=>?_
   have hr:rho 0 t i < t + 1:=by unfold rho; (repeat' split) <;> omega
   show _=M (ix1 a t _) (ix1 b t _)
   rw [f b j hj,g _ hr,gb (by omega)]
 have e5:sld M (a + 1) b (t + 1)=sgn t * bm (λr c=>M (ix1 a t r) (ix1 b t c)) t (t + 1) t:=by
   unfold bm sld mi
   rw [<- bK (k:=0) t _ (by omega)]
   refine aj λi hi j hj=>?_
   have hr:rho 0 t j < t + 1:=by unfold rho; (repeat' split) <;> omega
   show _=M (ix1 a t _) (ix1 b t _)
   rw [f a i hi,g _ hr,gb (by omega)]
 rw [both (t + 1) (by omega) (by omega),e3,both (t + 1 + 1) (by omega) (by omega)] at st
 rw [e4,e5]
 generalize bm (λr c=>M (ix1 a t r) (ix1 b t c)) t t (t + 1)=x at st ⊢
 generalize bm (λr c=>M (ix1 a t r) (ix1 b t c)) t (t + 1) t=y at st ⊢
 generalize sgn t=u at q ⊢
 show sld M (a + 1) (b + 1) t * sld M a b (t + 1 + 1)=_
 rw [st]
 grind
theorem sol {M:Nat->Nat->Rat} {n m:Nat} (h:∀ k a b,1<=k->a + k<=n->b + k<=m->(a=0\/b=0)->0 < sld M a b k):∀ s k a b,a + b=s->1<=k->a + k<=n->b + k<=m->0 < sld M a b k:=by
 intro s
 induction s using Nat.strongRecOn with
 | ind s ih=>
   intro k
   induction k with
   | zero=>intro a b _ h1; omega
   | succ t iht=>
     intro a b hs _ ha hb
     by_cases z:a=0\/b=0
     · exact h _ _ _ (by omega) ha hb z
     · obtain ⟨a',rfl⟩:∃ a',a=a' + 1:=⟨a - 1,by omega⟩
       obtain ⟨b',rfl⟩:∃ b',b=b' + 1:=⟨b - 1,by omega⟩
       have s0:0 < sld M (a' + 1) (b' + 1) t:=by
         by_cases y:t=0
         · subst y
           show (0:Rat) < 1
           decide
         · exact iht _ _ hs (by omega) (by omega) (by omega)
       have s1:=ih (a' + b') (by omega) (t + 2) a' b' rfl (by omega) (by omega) (by omega)
       have s2:=ih (a' + b') (by omega) (t + 1) a' b' rfl (by omega) (by omega) (by omega)
       have s3:=ih (a' + (b' + 1)) (by omega) (t + 1) a' (b' + 1) rfl (by omega) (by omega) (by omega)
       have s4:=ih (a' + 1 + b') (by omega) (t + 1) (a' + 1) b' rfl (by omega) (by omega) (by omega)
       have d:=wa (M:=M) (a:=a') (b:=b') (t:=t) (by intro q; rw [q] at s0; exact Rat.lt_irrefl s0)
       refine jA s2 ?_
       have u1:=Rat.mul_pos s0 s1
       have u2:=Rat.mul_pos s3 s4
       grind
theorem tp {M:Nat->Nat->Rat} {n m:Nat} (h:∀ k a b,1<=k->a + k<=n->b + k<=m->(a=0\/b=0)->0 < sld M a b k) {k:Nat} {ρ γ:Nat->Nat} (hρ:Inc k ρ) (hγ:Inc k γ) (h1:1<=k->ρ (k - 1) < n) (h2:1<=k->γ (k - 1) < m):0 < mi M k ρ γ:=
 fek (λk a b hk ha hb=>sol h _ k a b rfl hk ha hb) hρ hγ h1 h2
section
variable {P:Program} {w:World} {K:PySem.W.Frag} {mg:Str->Option Value} {base:Heap} {k:Nat} {f:Addr} {fd:FuncData} {qual:Str}
end
noncomputable def gH:Int->List Int->List Int
 | _,[]=>[]
 | c,b :: r=>c.fmod b :: gH (c.fdiv b) r
noncomputable def qA (c:Int) (bs:List Int):Int:=bs.foldl (λc b=>c.fdiv b) c
noncomputable def ux (c:Int) (k:Nat) (b:Int):Int:=(((((c * 48271 + (k:Int) * k * 69621 + (k:Int) * 16807 + 11).fmod 2147483647) * 40692 + c + 31 * (k:Int)).fmod 2147483399).fdiv 7).fmod b
noncomputable def qN (c:Int) (bs:List Int):List Int:=(List.range bs.length).map λk=>ux c k (bs.getD k 0)
noncomputable def nums (c:Int) (bs:List Int):List Int:=if (10:Int) ^ (18:Int).toNat<=lO c then gH c bs else qN c bs
theorem iF:∀ (bs:List Int) (c b:Int),gH c (bs++[b])=gH c bs++[(qA c bs).fmod b]
 | [],_,_=>rfl
 | a :: bs,c,b=>by rw [List.cons_append,gH,gH,iF bs]; rfl
theorem gj:∀ (bs:List Int) (c:Int),(gH c bs).length=bs.length
 | [],_=>rfl
 | _ :: bs,c=>congrArg (· + 1) (gj bs _)
theorem hE (c:Int) (bs:List Int):(nums c bs).length=bs.length:=by
 unfold nums
 split
 · exact gj bs c
 · simp [qN]
theorem mr:∀ (bs:List Int) (c:Int),(∀ b ∈ bs,0 < b)->∀ (i:Nat),i < bs.length->0<=(gH c bs).getD i 0/\(gH c bs).getD i 0 < bs.getD i 0
 | b :: bs,c,h,0,_=>by
   have:=h b (List.mem_cons_self ..)
   exact ⟨Int.fmod_nonneg_of_pos c this,Int.fmod_lt_of_pos c this⟩
 | b :: bs,c,h,i + 1,hi=>by
   have:=mr bs (c.fdiv b) (λx hx=>h x (List.mem_cons_of_mem _ hx)) i (by simpa using hi)
   simpa [gH] using this
theorem jg {c:Int} {bs:List Int} (h:∀ b ∈ bs,0 < b) {i:Nat} (hi:i < bs.length):0<=(nums c bs).getD i 0/\(nums c bs).getD i 0 < bs.getD i 0:=by
 unfold nums
 split
 · exact mr bs c h i hi
 · have hp:0 < bs.getD i 0:=h _ (by simp [hi])
   have e:(qN c bs).getD i 0=ux c i (bs.getD i 0):=by simp [qN,hi]
   rw [e]
   exact ⟨Int.fmod_nonneg_of_pos _ hp,Int.fmod_lt_of_pos _ hp⟩
theorem take_snoc {α:Type} {xs:List α} {i:Nat} (d:α) (h:i < xs.length):xs.take (i + 1)=xs.take i++[xs.getD i d]:=by
 rw [List.take_add_one,List.getElem?_eq_getElem h]
 simp [h]
theorem qE {b:Int} (h0:0 < b) (h:b < 2 ^ 60):0 < b/\aE b:=⟨h0,mkD (by omega) (by omega)⟩
noncomputable def bM (ds:List D) (r:Sl):Prop:=∃ (c:Int) (bs:List Int),ds=[.int c,.lst (bs.map .int)]/\bs.length<=10000/\(∀ b ∈ bs,0 < b/\aE b)/\r=.o ((nums c bs).map .int)
section
variable {P:Program} {w:World} {K:PySem.W.Frag} {mg:Str->Option Value} {base:Heap} {k:Nat} {f:Addr} {fd:FuncData} {qual:Str}
theorem jv (F:Fun K "_law_numbers" qual (top 42) f fd) (hb:∀ x ∈ ao,mg x=none):aN P w K mg base CX0 (k + 1) f fd ["_law_cell_here","_law_bases"] (spD K bM):=by
 refine fnD F fj hb (by rintro _ _ ⟨_,_,rfl,_⟩; rfl) ?_
 rintro _ _ ⟨c,bs,rfl,hl,hbs,rfl⟩ cdv A outer s H E b
 have nd:=fj.nd
 have hp:∀ i,i < bs.length->0 < bs.getD i 0/\aE (bs.getD i 0):=λi hi=>hbs _ (by simp [hi])
 refine az 2 nd (bJ af) ?_
 refine b9 (aU (a5 b (ab (aa 0) af) iS) (aA ae ae (gO ⟨by decide,by decide,by decide⟩)) ub) (λh=>?_) λh=>?_
 · refine bI 3 (λi τ=>∃ s3,τ=[.d (.int (qA c (bs.take i))),.d (.lst (bs.map .int)),.o ((gH c (bs.take i)).map .int),s3,.un,.un]) b nd (aS (aa 1)) rL ⟨_,rfl⟩ (λi hi τ h=>?_) λτ h=>?_
   · obtain ⟨s3,rfl⟩:=h
     have hi:i < bs.length:=by simpa using hi
     obtain ⟨p1,p2⟩:=hp i hi
     refine my 2 (aA (aa 0) (aa 3) (cb (by omega))) ?_ ?_
     · rw [List.length_map,gj,List.length_take]; omega
     refine az 0 nd (aA (aa 0) (aa 3) (bF p2)) (aO ?_)
     apply ex1
     show [Sl.d (.int ((qA c (bs.take i)).fdiv (bs.getD i 0))),_,Sl.o _,_,_,_]=_
     rw [take_snoc 0 hi,iF,List.map_append]
     unfold qA
     rw [List.foldl_append]
     rfl
   · obtain ⟨s3,rfl⟩:=h
     refine jC 2 ?_
     rw [List.length_map,List.take_of_length_le (Nat.le_refl _)]
     unfold nums
     rw [if_pos (of_decide_eq_true h)]
 · refine lI 4 3 (λi τ=>∃ s3 s4 s5,τ=[.d (.int c),.d (.lst (bs.map .int)),.o (((List.range i).map λk=>ux c k (bs.getD k 0)).map .int),s3,s4,s5]) b nd (oR b (aa 1)) rZ ⟨_,_,_,rfl⟩ (λi hi τ h=>?_) λτ h=>?_
   · obtain ⟨s3,s4,s5,rfl⟩:=h
     have hi:i < bs.length:=by rw [b7,List.length_map] at hi; exact hi
     obtain ⟨p1,p2⟩:=hp i hi
     refine az 5 nd (aA (aA (aA (aA (aA (aa 0) ae (bP (mkR (by decide)))) (aA (aA (aa 4) (aa 4) (bP (mkL (by omega)))) ae (bP (mkR (by decide)))) aT) (aA (aa 4) ae (bP (mkR (by decide)))) aT) ae aT) ae (cb (by decide))) ?_
     refine my 2 (aA (aA (aA (aA (aA (aA (aa 5) ae (bP (mkR (by decide)))) (aa 0) aT) (aA ae (aa 4) (bP (mkL (by decide)))) aT) ae (cb (by decide))) ae (bF (mkD (by decide) (by decide)))) (aa 3) (cb (by omega))) ?_ (aO ?_)
     · rw [List.length_map,List.length_map,List.length_range]; omega
     apply ex3
     rw [List.range_succ,List.map_append,List.map_append]
     rfl
   · obtain ⟨s3,s4,s5,rfl⟩:=h
     refine jC 2 ?_
     rw [b7,List.length_map]
     unfold nums
     rw [if_neg (of_decide_eq_false h)]
     rfl
end
noncomputable def dtR (r:List Int):D:=.lst (r.map .int)
noncomputable def dtM (Ms:List (List Int)) (i j:Nat):Rat:=(((Ms.getD i []).getD j 0:Int):Rat)
theorem atR {row:List Int} {j:Nat} (h:j < row.length):atI (row.map D.int) (j:Int)=some (.int (row.getD j 0)):=lP (i:=(j:Int)) (by omega) (by omega)
section
variable {P:Program} {w:World} {K:PySem.W.Frag} {mg:Str->Option Value} {base:Heap} {k:Nat} {f:Addr} {fd:FuncData} {qual:Str}
end
noncomputable def frD (q:Rat):D:=.tup [.int q.num,.int (q.den:Nat)]
theorem mn (x:Rat):x * (((x.den:Nat):Int):Rat)=(x.num:Rat):=by
 have h:mkRat x.num x.den=x:=by rw [<- Rat.normalize_eq_mkRat x.den_nz]; exact Rat.normalize_self x
 rw [Rat.mkRat_eq_div] at h
 have hd:((x.den:Nat):Rat) ≠ 0:=λz=>x.den_nz (Rat.natCast_eq_zero_iff.mp z)
 rw [Rat.intCast_natCast]
 conv=>lhs; lhs; rw [<- h]
 exact Rat.div_mul_cancel hd
theorem gW {t b:Int} {x:Rat} (hb:0 < b) (h:(t:Rat)=x * (b:Rat)):x.num=t / (Int.gcd t b:Int)/\((x.den:Nat):Int)=b / (Int.gcd t b:Int):=by
 have hb0:((b.toNat:Nat):Rat) ≠ 0:=λz=>by have:=Rat.natCast_eq_zero_iff.mp z; omega
 have hbb:((b:Int):Rat)=((b.toNat:Nat):Rat):=by rw [<- Rat.intCast_natCast,Int.toNat_of_nonneg (by omega)]
 have e:x=mkRat t b.toNat:=by
   rw [Rat.mkRat_eq_div,h,hbb,Rat.mul_div_cancel hb0]
 have g:b.toNat.gcd t.natAbs=Int.gcd t b:=by
   rw [Int.gcd,Nat.gcd_comm,show b.natAbs=b.toNat by omega]
 have nz:¬ b.toNat=0:=by omega
 constructor
 · rw [e,Rat.num_mkRat,if_neg nz,g]
 · rw [e,Rat.den_mkRat,if_neg nz,g,Int.natCast_ediv,Int.toNat_of_nonneg (by omega)]
theorem den_pos (q:Rat):0 < ((q.den:Nat):Int):=by have:=q.den_pos; omega
theorem kY {b:Int} (hb:0 < b):(b:Rat) ≠ 0:=λz=>by have:=Rat.intCast_eq_zero_iff.mp z; omega
noncomputable def Bd (n:Nat) (i:Int):Prop:=i.natAbs < 2 ^ n
theorem Bd.mono {m n:Nat} {i:Int} (h:Bd m i) (hm:m<=n):Bd n i:=Nat.lt_of_lt_of_le h (Nat.pow_le_pow_right (by decide) hm)
theorem Bd.log {n:Nat} {i:Int} (h:Bd n i) (hn:0 < n):i.natAbs.log2 < n:=by
 rcases Nat.eq_zero_or_pos i.natAbs with z | z
 · rw [z]; exact hn
 · exact (Nat.log2_lt (by omega)).mpr h
theorem Bd.mul {m n:Nat} {i j:Int} (h:Bd m i) (g:Bd n j):Bd (m + n) (i * j):=by
 unfold Bd at *
 rw [Int.natAbs_mul,Nat.pow_add]
 rcases Nat.eq_zero_or_pos j.natAbs with z | z
 · rw [z,Nat.mul_zero]; exact Nat.mul_pos (Nat.two_pow_pos m) (Nat.two_pow_pos n)
 · exact Nat.lt_of_lt_of_le (Nat.mul_lt_mul_of_pos_right h z) (Nat.mul_le_mul_left _ (Nat.le_of_lt g))
theorem Bd.aF {m n:Nat} {i j:Int} (h:Bd m i) (g:Bd n j) (hm:m<=1000000) (hn:n<=1000000):aF i j:=
 .inr (.inr ⟨(h.mono (Nat.le_succ_of_le hm)).log (by omega) |> λz=>by
   rcases Nat.eq_zero_or_pos i.natAbs with q | q
   · rw [q]; decide
   · exact Nat.lt_of_lt_of_le ((Nat.log2_lt (by omega)).mpr h) hm,by
   rcases Nat.eq_zero_or_pos j.natAbs with q | q
   · rw [q]; decide
   · exact Nat.lt_of_lt_of_le ((Nat.log2_lt (by omega)).mpr g) hn⟩)
theorem Bd.aE {n:Nat} {j:Int} (h:Bd n j) (h0:j ≠ 0) (hn:n<=9000):aE j:=⟨h0,Nat.lt_of_lt_of_le ((Nat.log2_lt (by omega)).mpr h) hn⟩
theorem Bd.of_dvd {n:Nat} {i j:Int} (h:Bd n j) (hd:i ∣ j) (h0:j ≠ 0):Bd n i:=Nat.lt_of_le_of_lt (Nat.le_of_dvd (by omega) (Int.natAbs_dvd_natAbs.mpr hd)) h
theorem Bd.ediv {n:Nat} {i:Int} (h:Bd n i) (j:Int):Bd n (i / j):=Nat.lt_of_le_of_lt (Int.natAbs_ediv_le_natAbs i j) h
theorem Bd.gcd {n:Nat} {i j:Int} (h:Bd n j) (h0:j ≠ 0):Bd n (Int.gcd i j:Int):=h.of_dvd (Int.gcd_dvd_right ..) h0
theorem gg {i j:Int} (h0:j ≠ 0):(Int.gcd i j:Int) ≠ 0:=λz=>h0 (by have:=Int.gcd_eq_zero_iff.mp (Int.ofNat_eq_zero.mp z); exact this.2)
theorem cB {i j:Int} (t:Int):t.fdiv (Int.gcd i j:Int)=t / (Int.gcd i j:Int):=Int.fdiv_eq_ediv_of_nonneg _ (Int.natCast_nonneg _)
structure Sq (n:Nat) (q:Rat):Prop where
 num:Bd n q.num
 den:Bd n (q.den:Nat)
noncomputable def whl (x:D):Bool:=kh .int x && !kh .bool x
noncomputable def cM (ds:List D) (r:Sl):Prop:=∃ x,ds=[x]/\r=.d (.bl (whl x))
noncomputable def aZ (ds:List D) (r:Sl):Prop:=∃ a b:Int,ds=[.int a,.int b]/\r=.d (.int (Int.gcd a b:Int))
theorem ff (i:Int):lO i=(i.natAbs:Int):=by unfold lO; omega
noncomputable def nJ:D->Bool
 | .tup [.int a,.int b]=>decide (1<=b) && decide ((Int.gcd a b:Int)=1)
 | _=>false
theorem qQ (q:Rat):nJ (frD q)=true:=by
 have h1:=den_pos q
 have h2:Int.gcd q.num (q.den:Nat)=1:=q.reduced
 show (decide ((1:Int)<=(q.den:Nat)) && decide ((Int.gcd q.num (q.den:Nat):Int)=1))=true
 rw [h2,decide_eq_true (show (1:Int)<=(q.den:Nat) by omega)]
 rfl
theorem pA {xs:List D} (h:xs.length ≠ 2):nJ (.tup xs)=false:=by
 unfold nJ
 split
 · rename_i e; cases e; exact absurd rfl h
 · rfl
noncomputable def cv (ds:List D) (r:Sl):Prop:=∃ x,ds=[x]/\r=.d (.bl (nJ x))
noncomputable def bu (ds:List D) (r:Sl):Prop:=∃ (t b:Int) (q:Rat),ds=[.int t,.int b]/\0 < b/\Bd 8999 b/\(t:Rat)=q * (b:Rat)/\r=.d (frD q)
noncomputable def eA (ds:List D) (r:Sl):Prop:=∃ (t b:Int) (q:Rat),ds=[.int t,.int b]/\0 < b/\Bd 8999 b/\(t:Rat)=q * (b:Rat)/\r=.d (frD q)
noncomputable def bj (ds:List D) (r:Sl):Prop:=∃ xs,ds=[.lst xs]/\r=.d (.bl (decide ((1:Int)<=(xs.length:Nat)) && decide (((xs.length:Nat):Int)<=7)))
section
variable {P:Program} {w:World} {K:PySem.W.Frag} {mg:Str->Option Value} {base:Heap} {k:Nat} {f:Addr} {fd:FuncData} {qual:Str}
theorem kI (F:Fun K "is_whole" qual (top 7) f fd) (hb:∀ x ∈ ao,mg x=none):aN P w K mg base CX0 (k + 1) f fd ["thing"] (spD K cM):=by
 refine fnD F j5 hb (by rintro _ _ ⟨_,rfl,_⟩; rfl) ?_
 rintro _ _ ⟨x,rfl,rfl⟩ cdv A outer s H E b
 exact aH (iM (kr .int b (aa 0)) λh=>(kC (vO (kr .bool b (aa 0))))) rfl
theorem eP (F:Fun K "common_divisor" qual (top 9) f fd) (hb:∀ x ∈ ao,mg x=none):aN P w K mg base CX0 (k + 1) f fd ["one","other"] (spD K aZ):=by
 refine fnD F ck hb (by rintro _ _ ⟨_,_,rfl,_⟩; rfl) ?_
 rintro _ _ ⟨x,y,rfl,rfl⟩ cdv A outer s H E b
 have nd:=ck.nd
 refine az 2 nd (a5 b (ab (aa 0) af) iS) (az 3 nd (a5 b (ab (aa 1) af) iS) ?_)
 rw [ff,ff]
 refine ml (λn t τ=>∃ (g:Nat) (s4:Sl),Nat.gcd g n=Int.gcd x y/\t=(!decide ((n:Int)=0))/\τ=[.d (.int x),.d (.int y),.d (.int g),.d (.int n),s4]) b ⟨_,_,_,_,rfl,rfl,rfl⟩ (λn t τ h=>?_) (λn τ h=>?_) λn τ h=>?_
 · obtain ⟨g,s4,_,rfl,rfl⟩:=h
   exact aU (aa 3) ae iy
 · obtain ⟨g,s4,hg,ht,rfl⟩:=h
   have hl:n ≠ 0:=λz=>by simp [z] at ht
   have e:(g:Int).fmod n=((g % n:Nat):Int):=by rw [Int.fmod_eq_emod_of_nonneg _ (by omega)]; rfl
   refine az 4 nd (aA (aa 2) (aa 3) (cb (by omega))) ?_
   rw [e]
   refine az 2 nd (aa 3) (az 3 nd (aa 4) (aO ⟨g % n,_,Nat.mod_lt g (Nat.pos_of_ne_zero hl),n,_,?_,rfl,rfl⟩))
   rw [<- hg,Nat.gcd_comm n,<- Nat.gcd_rec,Nat.gcd_comm]
 · obtain ⟨g,s4,hg,ht,rfl⟩:=h
   have hl:n=0:=by simpa using ht
   refine aH (aa 2) ?_
   rw [<- hg,hl,Nat.gcd_zero_right]
theorem gB (F:Fun K "is_fraction" qual (top 8) f fd) (hb:∀ x ∈ ao,mg x=none) (c_is_whole:Cal P w K mg base k "is_whole" cM) (c_common_divisor:Cal P w K mg base k "common_divisor" aZ):aN P w K mg base CX0 (k + 1) f fd ["thing"] (spD K cv):=by
 refine fnD F gu hb (by rintro _ _ ⟨_,rfl,_⟩; rfl) ?_
 rintro _ _ ⟨x,rfl,rfl⟩ cdv A outer s H E b
 by_cases ht:kh .tuple x=true
 · obtain ⟨xs,rfl⟩:∃ xs,x=.tup xs:=by cases x <;> first | exact ⟨_,rfl⟩ | cases ht
   refine b9 (PW.pt (k9 (cV (cX (kr .tuple b (aa 0)))) λh=>(iI (aU (a5 b (ab (aa 0) af) lu) ae iy)))) (λh=>?_) λh=>?_
   · refine aH nN ?_
     have h:(!decide ((xs.length:Int)=2))=true:=h
     have:xs.length ≠ 2:=λz=>by rw [z] at h; cases h
     rw [pA this]
   · have h:(!decide ((xs.length:Int)=2))=false:=h
     have h2:xs.length=2:=by simp at h; omega
     obtain ⟨u,v,rfl⟩:∃ u v,xs=[u,v]:=by
       match xs,h2 with
       | [u,v],_=>exact ⟨u,v,rfl⟩
     refine b9 (PW.pt (k9 (cV (cX (x_call b c_is_whole (ab (aP (aa 0) ae (a6 (aV (i:=0) rfl))) af) ⟨_,rfl,rfl⟩))) λh=>(iI (cV (cX (x_call b c_is_whole (ab (aP (aa 0) ae (a6 (aV (i:=1) rfl))) af) ⟨_,rfl,rfl⟩)))))) (λh=>?_) λh=>?_
     · refine aH nN ?_
       have:nJ (.tup [u,v])=false:=by cases u <;> cases v <;> first | rfl | cases h
       rw [this]
     · obtain ⟨i,j,rfl,rfl⟩:∃ i j,u=.int i/\v=.int j:=by cases u <;> cases v <;> first | exact ⟨_,_,rfl,rfl⟩ | cases h
       exact aH (iM (cc (aP (aa 0) ae (a6 (aV (i:=1) rfl))) ae ub) λh=>(kC (cc (x_call b c_common_divisor (ab (aP (aa 0) ae (a6 (aV (i:=0) rfl))) (ab (aP (aa 0) ae (a6 (aV (i:=1) rfl))) af)) ⟨_,_,rfl,rfl⟩) ae dQ))) rfl
 · have e:kh .tuple x=false:=by simpa using ht
   have ef:nJ x=false:=by cases x <;> first | rfl | cases e
   refine b9 (PW.pt (k9 (q:=true) (cV (cX (kr .tuple b (aa 0)))) λh=>(by rw [e] at h; cases h))) (λh=>?_) λh=>?_
   · refine aH nN ?_
     rw [ef]
   · rw [Bool.or_true] at h; cases h
theorem ei (F:Fun K "in_lowest_terms" qual (top 10) f fd) (hb:∀ x ∈ ao,mg x=none) (c_common_divisor:Cal P w K mg base k "common_divisor" aZ):aN P w K mg base CX0 (k + 1) f fd ["top","bottom"] (spD K bu):=by
 refine fnD F b6 hb (by rintro _ _ ⟨_,_,_,rfl,_⟩; rfl) ?_
 rintro _ _ ⟨t,c,q,rfl,h0,h1,hq,rfl⟩ cdv A outer s H E b
 have nd:=b6.nd
 refine az 2 nd (x_call b c_common_divisor (ab (aa 0) (ab (aa 1) af)) ⟨_,_,rfl,rfl⟩) ?_
 have dv:aE (Int.gcd t c:Int):=(h1.gcd (by omega)).aE (gg (by omega)) (by decide)
 obtain ⟨e1,e2⟩:=gW h0 hq
 refine fQ (aU (aa 1) ae jU) (decide_eq_false (by omega)) (aH (bO (ab (aA (aa 0) (aa 2) (bF dv)) (ab (aA (aa 1) (aa 2) (bF dv)) af))) ?_)
 rw [cB,cB,<- e1,<- e2]
 rfl
theorem jP (F:Fun K "fraction" qual (top 11) f fd) (hb:∀ x ∈ ao,mg x=none) (c_in_lowest_terms:Cal P w K mg base k "in_lowest_terms" bu) (c_is_whole:Cal P w K mg base k "is_whole" cM):aN P w K mg base CX0 (k + 1) f fd ["top","bottom"] (spD K eA):=by
 refine fnD F j9 hb (by rintro _ _ ⟨_,_,_,rfl,_⟩; rfl) ?_
 rintro _ _ ⟨t,c,q,rfl,h0,h1,hq,rfl⟩ cdv A outer s H E b
 refine fQ (PW.pt (k9 (cV (cX (x_call b c_is_whole (ab (aa 0) af) ⟨_,rfl,rfl⟩))) λh=>(iI (cV (cX (x_call b c_is_whole (ab (aa 1) af) ⟨_,rfl,rfl⟩)))))) rfl ?_
 refine fQ (aU (aa 1) ae dQ) (decide_eq_false (by omega)) ?_
 exact aH (x_call b c_in_lowest_terms (ab (aa 0) (ab (aa 1) af)) ⟨t,c,q,rfl,h0,h1,hq,rfl⟩) rfl
theorem ft (F:Fun K "is_short_list" qual (top 14) f fd) (hb:∀ x ∈ ao,mg x=none) (y_MOST:∃ t,mg "MOST" = some (.int 7 t)):aN P w K mg base CX0 (k + 1) f fd ["thing"] (spD K bj):=by
 refine fnD F fA hb (by rintro _ _ ⟨_,rfl,_⟩; rfl) ?_
 rintro _ _ ⟨xs,rfl,rfl⟩ cdv A outer s H E b
 exact aH (iM (kr .list b (aa 0)) λh=>(kC (rA ae (a5 b (ab (aa 0) af) dX) (sr y_MOST) uD uD).1)) rfl
end
noncomputable def rwQ (r:List Rat):D:=.lst (r.map frD)
noncomputable def tbQ (M:List (List Rat)):D:=.lst (M.map rwQ)
structure Tq (R C:Nat) (M:List (List Rat)):Prop where
 r1:1<=R
 r7:R<=7
 c1:1<=C
 c7:C<=7
 len:M.length=R
 row:∀ r ∈ M,r.length=C
theorem bN {α:Type} {f:α->D} {xs:List α} (d:α):∀ i (h:i < (xs.map f).length),(xs.map f)[i]=f (xs.getD i d):=λi h=>by
 have:i < xs.length:=by simpa using h
 simp [this]
theorem gp {α:Type} {f:α->D} {xs:List α} (d:α) {i:Nat} (h:i < xs.length):atI (xs.map f) (i:Int)=some (f (xs.getD i d)):=aV (by simp [h])
theorem a7 {α:Type} {xs:List α} {d:α} {i:Nat} (h:i < xs.length):xs.getD i d ∈ xs:=by simp [h]
theorem Tq.at_ {R C:Nat} {M:List (List Rat)} (h:Tq R C M) {i:Nat} (hi:i < R):(M.getD i []).length=C:=h.row _ (a7 (by rw [h.len]; exact hi))
theorem pf (n:Nat) (f:Nat->Bool) (h:∀ i,i < n->f i=true):((List.range n).map f).all id=true:=by
 rw [List.all_map,List.all_eq_true]
 intro i hi
 exact h i (List.mem_range.mp hi)
structure Qs (d v:Nat) (q:Rat):Prop where
 den:Bd d (q.den:Nat)
 val:q.num.natAbs<=2 ^ v * q.den
theorem fN {X:Cx} {xs:List D} {n:Nat} (h:xs.length=n):fq X (.builtin "len") [.lst xs] (.d (.int n)):=h ▸ dX
theorem cf {α:Type} (f:α->D) (xs:List α) (d:α) {m:Nat} (h:m=xs.length):(List.range m).map (λi=>f (xs.getD i d))=xs.map f:=by
 subst h
 refine List.ext_getElem (by simp) λi h1 h2=>?_
 have:i < xs.length:=by simpa using h2
 simp [this]
theorem kP {m:Int} {n:Nat} (i:Nat) (h:i < (fU m n).length):(fU m n)[i]=.int (m + (i:Nat)):=e8 m n i h
noncomputable def eV (ds:List D) (r:Sl):Prop:=∃ q:List Rat,ds=[rwQ q]/\1<=q.length/\q.length<=7/\r=.d (.bl true)
noncomputable def eF (ds:List D) (r:Sl):Prop:=∃ (R C:Nat) (M:List (List Rat)),ds=[tbQ M]/\Tq R C M/\r=.d (.bl true)
noncomputable def bx (ds:List D) (r:Sl):Prop:=∃ (R C:Nat) (M:List (List Rat)),ds=[tbQ M]/\Tq R C M/\r=.d .non
section
variable {P:Program} {w:World} {K:PySem.W.Frag} {mg:Str->Option Value} {base:Heap} {k:Nat} {f:Addr} {fd:FuncData} {qual:Str}
theorem nq (F:Fun K "is_row" qual (top 15) f fd) (hb:∀ x ∈ ao,mg x=none) (c_is_short_list:Cal P w K mg base k "is_short_list" bj) (c_is_fraction:Cal P w K mg base k "is_fraction" cv):aN P w K mg base CX0 (k + 1) f fd ["thing"] (spD K eV):=by
 refine fnD F nj hb (by rintro _ _ ⟨_,rfl,_⟩; rfl) ?_
 rintro _ _ ⟨q,rfl,h1,h7,rfl⟩ cdv A outer s H E b
 refine aH (iM (x_call b c_is_short_list (ab (aa 0) af) ⟨_,rfl,rfl⟩) λh=>(kC (a5 b (ab (aR (bL (cmp 0 (f:=λ_=>.bl true) b (aS (aa 0)) (bN (f:=frD) (xs:=q) 0) (by rw [List.length_map]; omega) λi hi s0 H0 fp=>(x_call (b.comp s0 H0 _ fp) c_is_fraction (ab (aa 0) af) ⟨_,rfl,by rw [qQ]⟩)))) af) (mz b.calm ((List.range (q.map frD).length).map λ_=>true) (by rw [List.map_map]; rfl))))) ?_
 rw [List.length_map,decide_eq_true (by omega),decide_eq_true (by omega),pf _ _ λ_ _=>rfl]
 rfl
theorem ky (F:Fun K "is_table" qual (top 16) f fd) (hb:∀ x ∈ ao,mg x=none) (c_is_short_list:Cal P w K mg base k "is_short_list" bj) (c_is_row:Cal P w K mg base k "is_row" eV):aN P w K mg base CX0 (k + 1) f fd ["thing"] (spD K eF):=by
 refine fnD F kc hb (by rintro _ _ ⟨_,_,_,rfl,_⟩; rfl) ?_
 rintro _ _ ⟨R,C,M,rfl,t,rfl⟩ cdv A outer s H E b
 have hl:(M.map rwQ).length=R:=by rw [List.length_map,t.len]
 have r1:=t.r1
 have r7:=t.r7
 have c1:=t.c1
 have c7:=t.c7
 refine fQ (PW.pt (k9 (cV (cX (x_call b c_is_short_list (ab (aa 0) af) ⟨_,rfl,rfl⟩))) λh=>(iI (cV (cX (a5 b (ab (aR (bL (cmp 0 (f:=λ_=>.bl true) b (aS (aa 0)) (bN (f:=rwQ) (xs:=M) []) (by rw [hl]; omega) λi hi s0 H0 fp=>(x_call (b.comp s0 H0 _ fp) c_is_row (ab (aa 0) af) ⟨_,rfl,?_,?_,rfl⟩)))) af) (mz b.calm ((List.range (M.map rwQ).length).map λ_=>true) (by rw [List.map_map]; rfl)))))))) ?_ ?_
 · rw [t.at_ (by rw [hl] at hi; exact hi)]; exact c1
 · rw [t.at_ (by rw [hl] at hi; exact hi)]; exact c7
 · rw [hl,decide_eq_true (by omega),decide_eq_true (by omega),pf _ _ λ_ _=>rfl]; rfl
 have e0:atI (M.map rwQ) 0=some (rwQ (M.getD 0 [])):=gp [] (i:=0) (by rw [t.len]; omega)
 refine aH (a5 b (ab (aR (bL (cmp 0 (f:=λ_=>.bl (decide ((C:Int)=(C:Int)))) b (aS (aa 0)) (bN (f:=rwQ) (xs:=M) []) (by rw [hl]; omega) λi hi s0 H0 fp=>(cc (a5 (b.comp s0 H0 _ fp) (ab (aa 0) af) (fN (n:=C) (by rw [List.length_map]; exact t.at_ (by rw [hl] at hi; exact hi)))) (a5 (b.comp s0 H0 _ fp) (ab (aP (aa 1) ae (aW e0)) af) (fN (n:=C) (by rw [List.length_map]; exact t.at_ (by omega)))) dQ)))) af) (mz b.calm ((List.range (M.map rwQ).length).map λ_=>decide ((C:Int)=(C:Int))) (by rw [List.map_map]; rfl))) ?_
 rw [pf _ _ λ_ _=>decide_eq_true rfl]
theorem ig (F:Fun K "look_table" qual (top 17) f fd) (hb:∀ x ∈ ao,mg x=none) (c_is_table:Cal P w K mg base k "is_table" eF):aN P w K mg base CX0 (k + 1) f fd ["thing"] (spD K bx):=by
 refine fnD F iw hb (by rintro _ _ ⟨_,_,_,rfl,_⟩; rfl) ?_
 rintro _ _ ⟨R,C,M,rfl,t,rfl⟩ cdv A outer s H E b
 exact fQ (cV (cX (x_call b c_is_table (ab (aa 0) af) ⟨R,C,M,rfl,t,rfl⟩))) rfl (aO rfl)
end
noncomputable def scS (s:Int) (q:Rat):Int:=s / (Int.gcd s (q.den:Nat):Int) * (q.den:Nat)
noncomputable def scL (r:List Rat):Int:=r.foldl scS 1
theorem tD {s:Int} (hs:0 < s) (q:Rat):0 < scS s q/\s ∣ scS s q/\((q.den:Nat):Int) ∣ scS s q:=by
 have hq:=den_pos q
 have g0:0 < (Int.gcd s (q.den:Nat):Int):=by
   have:=gg (i:=s) (j:=(q.den:Nat)) (by omega)
   have:=Int.natCast_nonneg (Int.gcd s (q.den:Nat))
   omega
 have d1:(Int.gcd s (q.den:Nat):Int) ∣ s:=Int.gcd_dvd_left ..
 have d2:(Int.gcd s (q.den:Nat):Int) ∣ ((q.den:Nat):Int):=Int.gcd_dvd_right ..
 have p1:0 < s / (Int.gcd s (q.den:Nat):Int):=Int.ediv_pos_of_pos_of_dvd hs (by omega) d1
 refine ⟨Int.mul_pos p1 hq,?_,Int.dvd_mul_left ..⟩
 obtain ⟨k,hk⟩:=d2
 refine ⟨k,?_⟩
 unfold scS
 conv=>lhs; rhs; rw [hk]
 rw [<- Int.mul_assoc,Int.ediv_mul_cancel d1]
theorem pB (r:List Rat) (q:Rat):scL (r++[q])=scS (scL r) q:=by unfold scL; rw [List.foldl_append]; rfl
theorem lB:∀ (r:List Rat) (s:Int),0 < s->0 < r.foldl scS s/\s ∣ r.foldl scS s/\∀ q ∈ r,((q.den:Nat):Int) ∣ r.foldl scS s
 | [],s,h=>⟨h,Int.dvd_refl _,λ_ z=>nomatch z⟩
 | q :: r,s,h=>by
   obtain ⟨a1,a2,a3⟩:=tD h q
   obtain ⟨b1,b2,b3⟩:=lB r _ a1
   exact ⟨b1,Int.dvd_trans a2 b2,λx hx=>(List.mem_cons.mp hx).elim (λe=>by rw [e]; exact Int.dvd_trans a3 b2) (b3 x)⟩
theorem cq (r:List Rat):0 < scL r/\∀ q ∈ r,((q.den:Nat):Int) ∣ scL r:=⟨(lB r 1 (by decide)).1,(lB r 1 (by decide)).2.2⟩
theorem pF {d:Nat}:∀ (r:List Rat) (s:Int) (n:Nat),Bd n s->(∀ q ∈ r,Bd d (q.den:Nat))->Bd (n + r.length * d) (r.foldl scS s)
 | [],s,n,h,_=>by simpa using h
 | q :: r,s,n,h,hd=>by
   have h1:Bd (n + d) (scS s q):=(h.ediv _).mul (hd q (List.mem_cons_self ..))
   have:=pF r _ _ h1 λx hx=>hd x (List.mem_cons_of_mem _ hx)
   rw [List.length_cons,Nat.succ_mul]
   rwa [show n + d + r.length * d=n + (r.length * d + d) by omega] at this
theorem dF {d:Nat} {r:List Rat} (h:∀ q ∈ r,Bd d (q.den:Nat)):Bd (1 + r.length * d) (scL r):=pF r 1 1 (by unfold Bd; decide) h
noncomputable def b8 (ds:List D) (r:Sl):Prop:=∃ (q:List Rat) (d:Nat),ds=[rwQ q]/\q.length<=1000/\(∀ x ∈ q,Bd d (x.den:Nat))/\1 + q.length * d<=8999/\d<=8999/\r=.d (.int (scL q))
noncomputable def whR (r:List Rat) (s:Int):List Int:=r.map λq=>q.num * (s / (q.den:Nat))
theorem uF {q:Rat} {s:Int} (h:((q.den:Nat):Int) ∣ s):((q.num * (s / (q.den:Nat)):Int):Rat)=q * (s:Rat):=by
 obtain ⟨k,rfl⟩:=h
 have:=den_pos q
 rw [Int.mul_ediv_cancel_left _ (by omega),Rat.intCast_mul,Rat.intCast_mul,<- Rat.mul_assoc,mn]
theorem oy {d v n:Nat} {q:Rat} {s:Int} (hq:Qs d v q) (h:((q.den:Nat):Int) ∣ s) (hs:Bd n s):Bd (v + n) (q.num * (s / (q.den:Nat))):=by
 obtain ⟨k,rfl⟩:=h
 have hd:=den_pos q
 rw [Int.mul_ediv_cancel_left _ (by omega)]
 unfold Bd at hs ⊢
 rw [Int.natAbs_mul,Nat.pow_add]
 rw [Int.natAbs_mul,Int.natAbs_natCast] at hs
 have h1:q.num.natAbs * k.natAbs<=2 ^ v * q.den * k.natAbs:=Nat.mul_le_mul_right _ hq.val
 rw [Nat.mul_assoc] at h1
 exact Nat.lt_of_le_of_lt h1 (Nat.mul_lt_mul_of_pos_left hs (Nat.two_pow_pos v))
noncomputable def cg (ds:List D) (r:Sl):Prop:=∃ (q:List Rat) (s:Int) (n:Nat),ds=[rwQ q,.int s]/\q.length<=1000/\(∀ x ∈ q,Sq n x)/\n<=8999/\Bd 8999 s/\r=.o ((whR q s).map .int)
noncomputable def whM (M:List (List Rat)) (ss:List Int):List (List Int):=(List.range M.length).map λi=>whR (M.getD i []) (ss.getD i 0)
theorem kS {α β:Type} {f:α->D} {g:β->D} {xs:List α} {ys:List β} (d:α) (e:β) (i:Nat) (h:i < (fF (xs.map f) (ys.map g)).length):(fF (xs.map f) (ys.map g))[i]=.tup [f (xs.getD i d),g (ys.getD i e)]:=by
 rw [bX,List.length_map,List.length_map] at h
 have h1:i < xs.length:=by omega
 have h2:i < ys.length:=by omega
 simp [fF,h1,h2]
noncomputable def bV (ds:List D) (r:Sl):Prop:=∃ (M:List (List Rat)) (ss:List Int) (n:Nat),ds=[tbQ M,.lst (ss.map .int)]/\M.length=ss.length/\M.length<=1000/\(∀ r ∈ M,r.length<=1000/\∀ x ∈ r,Sq n x)/\n<=8999/\(∀ s ∈ ss,Bd 8999 s)/\r=.o ((whM M ss).map dtR)
noncomputable def tpD (c:List Int):D:=.tup (c.map .int)
noncomputable def js (cs:List (List Int)):D:=.lst (cs.map tpD)
noncomputable def dR (c:List Int):Int:=c.getD (c.length - 1) 0
noncomputable def lea (t:Nat) (c:List Int):Int:=if 0 < t then dR c + 1 else 0
noncomputable def onC (n t:Nat) (c:List Int):List (List Int):=(List.range ((n:Int) - lea t c).toNat).map λk=>c++[lea t c + (k:Nat)]
noncomputable def chs (n:Nat):Nat->List (List Int)
 | 0=>[[]]
 | t + 1=>(chs n t).flatMap (onC n t)
structure Chs (n t:Nat) (c:List Int):Prop where
 len:c.length=t
 at_:∀ i,i < t->0<=c.getD i 0/\c.getD i 0 < n
theorem pK {c:List Int} {x:Int} {i:Nat}:(c++[x]).getD i 0=if i < c.length then c.getD i 0 else if i=c.length then x else 0:=by
 by_cases h:i < c.length
 · rw [if_pos h]; simp [List.getD,List.getElem?_append_left h]
 · rw [if_neg h]
   by_cases e:i=c.length
   · subst e; simp
   · rw [if_neg e]
     simp [List.getD]
     rw [List.getElem?_eq_none (by simp; omega)]
     rfl
theorem k5 {n t:Nat} {c:List Int} (h:Chs n t c):0<=lea t c/\lea t c<=n:=by
 unfold lea
 by_cases ht:0 < t
 · have:=h.at_ (t - 1) (by omega)
   rw [if_pos ht,dR,h.len]
   omega
 · rw [if_neg ht]; omega
theorem bQ (n:Nat):∀ t,∀ c ∈ chs n t,Chs n t c
 | 0,c,h=>by
   rw [chs,List.mem_singleton] at h
   subst h
   exact ⟨rfl,λi hi=>absurd hi (by omega)⟩
 | t + 1,c,h=>by
   rw [chs,List.mem_flatMap] at h
   obtain ⟨d,hd,hc⟩:=h
   have ih:=bQ n t d hd
   have hl:=k5 ih
   unfold onC at hc
   obtain ⟨k,hk,rfl⟩:=List.mem_map.mp hc
   rw [List.mem_range] at hk
   refine ⟨by rw [List.length_append,ih.len]; rfl,λi hi=>?_⟩
   rw [pK,ih.len]
   by_cases e:i < t
   · rw [if_pos e]; exact ih.at_ i e
   · rw [if_neg e,if_pos (by omega)]; omega
theorem jk {n t:Nat} {c:List Int} (h:Chs n t c):(onC n t c).length<=n:=by
 have:=k5 h
 simp [onC]
 omega
theorem dM {α β:Type} (f:α->List β) (m:Nat):∀ xs:List α,(∀ x ∈ xs,(f x).length<=m)->(xs.flatMap f).length<=xs.length * m
 | [],_=>by simp
 | x :: xs,h=>by
   rw [List.flatMap_cons,List.length_append,List.length_cons,Nat.succ_mul]
   have:=h x (List.mem_cons_self ..)
   have:=dM f m xs λy hy=>h y (List.mem_cons_of_mem _ hy)
   omega
theorem mK {n:Nat} (hn:n<=7):∀ t,(chs n t).length<=7 ^ t
 | 0=>by simp [chs]
 | t + 1=>by
   rw [chs]
   have:=dM (onC n t) 7 (chs n t) λc hc=>Nat.le_trans (jk (bQ n t c hc)) hn
   have:=mK hn t
   rw [Nat.pow_succ]
   omega
noncomputable def cO (ds:List D) (r:Sl):Prop:=∃ n t:Nat,ds=[.int n,.int t]/\n<=7/\t<=7/\r=.d (js (chs n t))
theorem qH {cs:List (List Int)} (i:Nat) (h:i < (cs.map tpD).length):(cs.map tpD)[i]=tpD (cs.getD i []):=by
 have:i < cs.length:=by simpa using h
 simp [this]
theorem cS {α:Type} {xs:List α} {i:Nat} {d:α} (h:i < xs.length):xs.getD i d ∈ xs:=by simp [h]
theorem ma {c:List Int} (h:c ≠ []):atI (c.map D.int) (-1)=some (.int (dR c)):=by
 have hl:0 < c.length:=List.length_pos_iff.mpr h
 unfold atI ixN dR
 rw [if_neg (by decide),if_pos (by rw [List.length_map]; omega),List.length_map]
 simp only [Option.bind_some]
 have e:(-1 + (c.length:Int)).toNat=c.length - 1:=by omega
 rw [e]
 simp [(by omega:c.length - 1 < c.length)]
section
variable {P:Program} {w:World} {K:PySem.W.Frag} {mg:Str->Option Value} {base:Heap} {k:Nat} {f:Addr} {fd:FuncData} {qual:Str}
theorem kg (F:Fun K "scale_of" qual (top 22) f fd) (hb:∀ x ∈ ao,mg x=none) (c_common_divisor:Cal P w K mg base k "common_divisor" aZ):aN P w K mg base CX0 (k + 1) f fd ["row"] (spD K b8):=by
 refine fnD F fO hb (by rintro _ _ ⟨_,_,rfl,_⟩; rfl) ?_
 rintro _ _ ⟨q,d,rfl,hl,hd,hb1,hd1,rfl⟩ cdv A outer s H E b
 have nd:=fO.nd
 refine az 1 nd ae ?_
 refine bI 2 (g:=λi=>frD (q.getD i 0)) (λi τ=>i<=q.length/\∃ s2,τ=[.d (rwQ q),.d (.int (scL (q.take i))),s2]) b nd (aS (aa 0)) (bN (f:=frD) (xs:=q) 0) ⟨Nat.zero_le _,.un,rfl⟩ (λi hi τ h=>?_) λτ h=>?_
 · obtain ⟨_,s2,rfl⟩:=h
   have hi:i < q.length:=by simpa using hi
   have mm:=a7 (d:=(0:Rat)) hi
   have hs:=(cq (q.take i)).1
   have bs:Bd (1 + q.length * d) (scL (q.take i)):=(dF λx hx=>hd x (List.mem_of_mem_take hx)).mono (by
     have:(q.take i).length * d<=q.length * d:=Nat.mul_le_mul_right _ (by rw [List.length_take]; omega)
     omega)
   have et:q.take (i + 1)=q.take i++[q.getD i 0]:=by rw [List.take_succ,List.getElem?_eq_getElem hi]; simp [hi]
   rw [et,pB]
   generalize scL (q.take i)=sc at hs bs ⊢
   generalize q.getD i 0=x at mm ⊢
   have hx:=den_pos x
   have dv:aE (Int.gcd sc (x.den:Nat):Int):=((hd x mm).gcd (by omega)).aE (gg (by omega)) (by omega)
   refine az 1 nd (aA (aA (aa 1) (x_call b c_common_divisor (ab (aa 1) (ab (aP (aa 2) ae (a6 (aV (i:=1) rfl))) af)) ⟨_,_,rfl,rfl⟩) (bF dv)) (aP (aa 2) ae (a6 (aV (i:=1) rfl))) (bP ?_)) (aO ⟨hi,.d (frD x),?_⟩)
   · rw [cB]; exact (bs.ediv _).aF (hd x mm) (by omega) (by omega)
   · rw [cB]; rfl
 · obtain ⟨_,s2,rfl⟩:=h
   rw [List.length_map,List.take_length]
   exact aH (aa 1) rfl
theorem jD (F:Fun K "whole_row" qual (top 23) f fd) (hb:∀ x ∈ ao,mg x=none):aN P w K mg base CX0 (k + 1) f fd ["row","scale"] (spD K cg):=by
 refine fnD F jL hb (by rintro _ _ ⟨_,_,_,rfl,_⟩; rfl) ?_
 rintro _ _ ⟨q,s0,n,rfl,hl,hq,hn,hs,rfl⟩ cdv A outer s H E b
 refine aH (bL (cmp 0 (f:=λi=>.int ((q.getD i 0).num * (s0.fdiv ((q.getD i 0).den:Nat)))) b (aS (aa 0)) (bN (f:=frD) (xs:=q) 0) (by rw [List.length_map]; omega) λi hi s1 H0 fp=>?_)) ?_
 · have sq:=hq _ (a7 (d:=(0:Rat)) (by simpa using hi))
   generalize q.getD i 0=x at sq ⊢
   have hx:=den_pos x
   have e:s0.fdiv (x.den:Nat)=s0 / (x.den:Nat):=Int.fdiv_eq_ediv_of_nonneg _ (by omega)
   exact aA (aP (aa 0) ae (a6 (aV (i:=0) rfl))) (aA (aa 1) (aP (aa 0) ae (a6 (aV (i:=1) rfl))) (bF (sq.den.aE (by omega) (by omega)))) (bP (by rw [e]; exact sq.num.aF (hs.ediv _) (by omega) (by omega)))
 · refine congrArg Sl.o ((cf (λx:Rat=>D.int (x.num * (s0.fdiv (x.den:Nat)))) q 0 (List.length_map ..)).trans ?_)
   unfold whR
   rw [List.map_map]
   refine List.map_congr_left λx _=>?_
   simp only [Function.comp]
   rw [Int.fdiv_eq_ediv_of_nonneg _ (by have:=den_pos x; omega)]
theorem ir (F:Fun K "whole_rows" qual (top 24) f fd) (hb:∀ x ∈ ao,mg x=none) (c_whole_row:Cal P w K mg base k "whole_row" cg):aN P w K mg base CX0 (k + 1) f fd ["table","scales"] (spD K bV):=by
 refine fnD F iq hb (by rintro _ _ ⟨_,_,_,rfl,_⟩; rfl) ?_
 rintro _ _ ⟨M,ss,n,rfl,hl,h1,hM,hn,hs,rfl⟩ cdv A outer s H E b
 have zl:(fF (M.map rwQ) (ss.map D.int)).length=M.length:=by rw [bX,List.length_map,List.length_map]; omega
 refine aH (bL (tH 0 1 (g:=λi=>rwQ (M.getD i [])) (g':=λi=>.int (ss.getD i 0)) (f:=λi=>dtR (whR (M.getD i []) (ss.getD i 0))) b (oP b (aa 0) (aa 1)) (kS [] 0) (by rw [zl]; omega) λi hi s0 H0 fp=>?_)) ?_
 · rw [zl] at hi
   obtain ⟨g1,g2⟩:=hM _ (a7 (d:=[]) hi)
   exact aR (x_call (b.comp s0 H0 _ fp) c_whole_row (ab (aa 0) (ab (aa 1) af)) ⟨_,_,n,rfl,g1,g2,hn,hs _ (a7 (by omega)),rfl⟩)
 · unfold whM
   rw [zl,List.map_map]
   rfl
theorem hV (F:Fun K "choices_of" qual (top 18) f fd) (hb:∀ x ∈ ao,mg x=none):aN P w K mg base CX0 (k + 1) f fd ["many","size"] (spD K cO):=by
 refine fnD F dW hb (by rintro _ _ ⟨_,_,rfl,_⟩; rfl) ?_
 rintro _ _ ⟨n,t,rfl,hn,ht,rfl⟩ cdv A outer s H E b
 have nd:=dW.nd
 refine az 2 nd (aR (bJ (ab (bO af) af))) ?_
 refine bI 3 (λi τ=>∃ s3 s4 s5 s6,τ=[.d (.int n),.d (.int t),.d (js (chs n i)),s3,s4,s5,s6]) b nd (c8 b (aa 1) (by omega) (by omega)) cY ⟨.un,.un,.un,.un,rfl⟩ (λi hi τ h=>?_) λτ h=>?_
 · obtain ⟨s3,s4,s5,s6,rfl⟩:=h
   have hi:i < t:=by rw [aw] at hi; omega
   have l1:=mK hn i
   have l2:7 ^ i<=7 ^ 6:=Nat.pow_le_pow_right (by decide) (by omega)
   refine az 4 nd (bJ af) ?_
   refine bI 5 (g:=λl=>tpD ((chs n i).getD l [])) (λl τ=>∃ s5 s6,τ=[.d (.int n),.d (.int t),.d (js (chs n i)),.d (.int (i:Nat)),.o ((((chs n i).take l).flatMap (onC n i)).map tpD),s5,s6]) b nd (aS (aa 2)) qH ⟨s5,s6,rfl⟩ (λl hl τ h=>?_) λτ h=>?_
   · obtain ⟨s5,s6,rfl⟩:=h
     have hl:l < (chs n i).length:=by simpa using hl
     have ok:=bQ n i _ (cS (d:=[]) hl)
     have hle:=k5 ok
     have len1:=dM (onC n i) 7 ((chs n i).take l) λc hc=>Nat.le_trans (jk (bQ n i c (List.mem_of_mem_take hc))) hn
     rw [List.length_take] at len1
     have len2:=jk ok
     refine az 6 nd (mY (s:=.d (.int (lea i ((chs n i).getD l [])))) (aU (aa 3) ae ki) (λh=>?_) λh=>?_) ?_
     · have h:=of_decide_eq_true h
       have h0:0 < i:=by omega
       rw [show lea i ((chs n i).getD l [])=dR ((chs n i).getD l []) + 1 from if_pos h0]
       exact aA (aP (aa 5) (fL ae) (a6 (ma λz=>by have:=ok.len; rw [z] at this; simp at this; omega))) ae aT
     · have h:=of_decide_eq_false h
       rw [show lea i ((chs n i).getD l [])=0 from if_neg (by omega)]
       exact ae
     refine sk 4 (bL (cmp 0 (f:=λk=>tpD (((chs n i).getD l [])++[lea i ((chs n i).getD l []) + (k:Nat)])) b (gw b (aa 6) (aa 0) ⟨by omega,by omega,by omega,by omega⟩) (λk hk=>e8 _ _ k hk) (by rw [aw]; omega) λk hk s0 H0 fp=>?_)) ?_ (aO ⟨.d (tpD ((chs n i).getD l [])),.d (.int (lea i ((chs n i).getD l []))),?_⟩)
     · have e:tpD (((chs n i).getD l [])++[lea i ((chs n i).getD l []) + (k:Nat)])=.tup ((((chs n i).getD l []).map D.int)++[.int (lea i ((chs n i).getD l []) + (k:Nat))]):=by unfold tpD; rw [List.map_append]; rfl
       rw [e]
       exact aA (aa 1) (bO (ab (aa 0) af)) (pE (by rw [List.length_map,ok.len]; show _ + 1 < _; omega))
     · rw [List.length_map,List.length_map,List.length_range,aw]; omega
     · rw [take_snoc [] hl,List.flatMap_append,List.map_append,aw]
       show [_,_,_,_,Sl.o (_++(List.range ((n:Int) - lea i ((chs n i).getD l [])).toNat).map _),_,_]=_
       simp [onC]
   · obtain ⟨s5,s6,rfl⟩:=h
     refine rj 4 (az 2 nd (aa 4) (aO ⟨.d (.int (i:Nat)),.d (js (chs n (i + 1))),s5,s6,?_⟩))
     rw [List.length_map,List.take_of_length_le (Nat.le_refl _)]
     rfl
 · obtain ⟨s3,s4,s5,s6,rfl⟩:=h
   refine aH (aa 2) ?_
   rw [aw,Int.toNat_natCast]
end
noncomputable def qM (M:List (List Rat)) (i j:Nat):Rat:=(M.getD i []).getD j 0
theorem Qs.sq {d v:Nat} {q:Rat} (h:Qs d v q):Sq (v + d) q:=by
 refine ⟨?_,h.den.mono (by omega)⟩
 have h1:=h.den
 unfold Bd at h1 ⊢
 rw [Int.natAbs_natCast] at h1
 rw [Nat.pow_add]
 exact Nat.lt_of_le_of_lt h.val (Nat.mul_lt_mul_of_pos_left h1 (Nat.two_pow_pos v))
noncomputable def jq (t:List (List Rat)) (j:Nat):List Rat:=t.map λr=>r.getD j 0
noncomputable def cj (ds:List D) (r:Sl):Prop:=∃ (R C:Nat) (t:List (List Rat)) (j:Nat),ds=[tbQ t,.int (j:Nat)]/\Tq R C t/\j < C/\r=.o ((jq t j).map frD)
noncomputable def bf (t:List (List Rat)) (C:Nat):List (List Rat):=(List.range C).map (jq t)
theorem gY {R C:Nat} {t:List (List Rat)} (h:Tq R C t):Tq C R (bf t C):=⟨h.c1,h.c7,h.r1,h.r7,by simp [bf],λr hr=>by
 unfold bf at hr
 obtain ⟨j,_,rfl⟩:=List.mem_map.mp hr
 unfold jq
 rw [List.length_map,h.len]⟩
theorem pJ {R C:Nat} {t:List (List Rat)} (h:Tq R C t) {i j:Nat} (hi:i < R) (hj:j < C):qM (bf t C) j i=qM t i j:=by
 have:i < t.length:=by rw [h.len]; exact hi
 unfold qM bf jq
 simp [hj,this]
theorem oq {R C d v:Nat} {t:List (List Rat)} (h:Tq R C t) (hq:∀ r ∈ t,∀ x ∈ r,Qs d v x):∀ r ∈ bf t C,∀ x ∈ r,Qs d v x:=λr hr x hx=>by
 unfold bf at hr
 obtain ⟨j,hj,rfl⟩:=List.mem_map.mp hr
 rw [List.mem_range] at hj
 unfold jq at hx
 obtain ⟨q,hq',rfl⟩:=List.mem_map.mp hx
 exact hq q hq' _ (a7 (by rw [h.row q hq']; exact hj))
noncomputable def cT (ds:List D) (r:Sl):Prop:=∃ (R C:Nat) (t:List (List Rat)),ds=[tbQ t]/\Tq R C t/\r=.o ((bf t C).map rwQ)
noncomputable def jE (ns ms:List Int):List Int:=(List.range (min ns.length ms.length)).map λi=>ns.getD i 0 * ms.getD i 0
noncomputable def bA (ds:List D) (r:Sl):Prop:=∃ (ns ms:List Int) (B:Nat),ds=[dtR ns,dtR ms]/\ns.length<=1000/\(∀ x ∈ ns,Bd B x)/\(∀ x ∈ ms,Bd B x)/\B<=900000/\r=.d (.int (jE ns ms).sum)
noncomputable def cN (q c:List Rat):Rat:=ax (λk=>q.getD k 0 * c.getD k 0) q.length
theorem v7 (a s b t:Rat):a * s * (b * t)=a * b * (s * t):=by rw [Rat.mul_assoc,<- Rat.mul_assoc s b t,Rat.mul_comm s b,Rat.mul_assoc b s t,<- Rat.mul_assoc a b]
theorem sh {d v:Nat} {q:Rat} {s:Int} (hq:Qs d v q) (h:((q.den:Nat):Int) ∣ s):(q.num * (s / (q.den:Nat))).natAbs<=2 ^ v * s.natAbs:=by
 obtain ⟨k,rfl⟩:=h
 have hd:=den_pos q
 rw [Int.mul_ediv_cancel_left _ (by omega),Int.natAbs_mul,Int.natAbs_mul,Int.natAbs_natCast,<- Nat.mul_assoc]
 exact Nat.mul_le_mul_right _ hq.val
theorem jI {q:List Rat} {s:Int} {i:Nat} (h:i < q.length):(whR q s).getD i 0=(q.getD i 0).num * (s / ((q.getD i 0).den:Nat)):=by unfold whR; simp [h]
theorem pd {B:Nat} {f:Nat->Int}:∀ n,(∀ i < n,(f i).natAbs<=B)->((List.range n).map f).sum.natAbs<=n * B
 | 0,_=>by simp
 | n + 1,h=>by
   rw [List.range_succ,List.map_append,List.sum_append]
   have h1:=pd n λi hi=>h i (by omega)
   have h2:=h n (by omega)
   rw [Nat.succ_mul]
   simp only [List.map_cons,List.map_nil,List.sum_cons,List.sum_nil,Int.add_zero]
   omega
theorem ur {K d v:Nat} {q c:List Rat} (h1:q.length=K) (h2:c.length=K) (k7:K<=7) (hq:∀ x ∈ q,Qs d v x) (hc:∀ x ∈ c,Qs d v x):(((jE (whR q (scL q)) (whR c (scL c))).sum:Int):Rat)=cN q c * ((scL q * scL c:Int):Rat)/\Qs (2 + 2 * (K * d)) (2 * v + 3) (cN q c):=by
 obtain ⟨p1,d1⟩:=cq q
 obtain ⟨p2,d2⟩:=cq c
 have l1:(whR q (scL q)).length=K:=by unfold whR; rw [List.length_map,h1]
 have l2:(whR c (scL c)).length=K:=by unfold whR; rw [List.length_map,h2]
 have e:(((jE (whR q (scL q)) (whR c (scL c))).sum:Int):Rat)=cN q c * ((scL q * scL c:Int):Rat):=by
   unfold jE cN
   rw [l1,l2,Nat.min_self,iC,h1,g9]
   refine av λi hi=>?_
   have mi:=a7 (xs:=q) (d:=(0:Rat)) (i:=i) (by omega)
   have ni:=a7 (xs:=c) (d:=(0:Rat)) (i:=i) (by omega)
   rw [jI (by omega),jI (by omega),Rat.intCast_mul,uF (d1 _ mi),uF (d2 _ ni),Rat.intCast_mul]
   exact v7 _ _ _ _
 refine ⟨e,?_⟩
 have S0:0 < scL q * scL c:=Int.mul_pos p1 p2
 obtain ⟨f1,f2⟩:=gW S0 e
 have b1:=dF (d:=d) (r:=q) λx hx=>(hq x hx).den
 have b2:=dF (d:=d) (r:=c) λx hx=>(hc x hx).den
 rw [h1] at b1
 rw [h2] at b2
 refine ⟨?_,?_⟩
 · rw [f2]
   exact ((b1.mul b2).ediv _).mono (by omega)
 · have zl:(jE (whR q (scL q)) (whR c (scL c))).sum.natAbs<=K * (2 ^ v * (scL q).natAbs * (2 ^ v * (scL c).natAbs)):=by
     unfold jE
     rw [l1,l2,Nat.min_self]
     refine pd K λi hi=>?_
     have mi:=a7 (xs:=q) (d:=(0:Rat)) (i:=i) (by omega)
     have ni:=a7 (xs:=c) (d:=(0:Rat)) (i:=i) (by omega)
     rw [jI (by omega),jI (by omega),Int.natAbs_mul]
     exact Nat.mul_le_mul (sh (hq _ mi) (d1 _ mi)) (sh (hc _ ni) (d2 _ ni))
   generalize (jE (whR q (scL q)) (whR c (scL c))).sum=z at f1 f2 zl
   generalize hS:scL q * scL c=S at f1 f2 S0
   have sS:(scL q).natAbs * (scL c).natAbs=S.natAbs:=by rw [<- hS,Int.natAbs_mul]
   generalize hg:(Int.gcd z S:Int)=g at f1 f2
   have g0:0 < g:=by
     have:=gg (i:=z) (j:=S) (by omega)
     rw [hg] at this
     have:=Int.natCast_nonneg (Int.gcd z S)
     omega
   have gz:g ∣ z:=by rw [<- hg]; exact Int.gcd_dvd_left ..
   have gS:g ∣ S:=by rw [<- hg]; exact Int.gcd_dvd_right ..
   have ez:(cN q c).num * g=z:=by rw [f1]; exact Int.ediv_mul_cancel gz
   have eS:((cN q c).den:Int) * g=S:=by rw [f2]; exact Int.ediv_mul_cancel gS
   have nz:(cN q c).num.natAbs * g.natAbs=z.natAbs:=by rw [<- Int.natAbs_mul,ez]
   have nS:(cN q c).den * g.natAbs=S.natAbs:=by rw [<- eS,Int.natAbs_mul,Int.natAbs_natCast]
   have key:(cN q c).num.natAbs * g.natAbs<=2 ^ (2 * v + 3) * (cN q c).den * g.natAbs:=by
     rw [nz,Nat.mul_assoc,nS,<- sS]
     refine Nat.le_trans zl ?_
     have e3:(2:Nat) ^ (2 * v + 3)=2 ^ v * 2 ^ v * 8:=by rw [Nat.pow_add,Nat.two_mul,Nat.pow_add]
     rw [e3]
     have:K * (2 ^ v * (scL q).natAbs * (2 ^ v * (scL c).natAbs))=K * (2 ^ v * 2 ^ v * ((scL q).natAbs * (scL c).natAbs)):=by
       congr 1
       rw [Nat.mul_mul_mul_comm]
     rw [this,Nat.mul_comm (2 ^ v * 2 ^ v) 8,Nat.mul_assoc 8]
     exact Nat.mul_le_mul_right _ (by omega)
   exact Nat.le_of_mul_le_mul_right key (by omega)
noncomputable def cw (ds:List D) (r:Sl):Prop:=∃ (K d v:Nat) (q:List Rat) (cl:List (List Rat)),ds=[rwQ q,.lst ((whM cl (cl.map scL)).map dtR),.lst ((cl.map scL).map .int)]/\q.length=K/\K<=7/\(∀ x ∈ q,Qs d v x)/\cl.length<=1000/\(∀ c ∈ cl,c.length=K/\∀ x ∈ c,Qs d v x)/\2 + 2 * (K * d)<=8999/\v + (1 + K * d)<=8999/\v + d<=8999/\r=.o ((cl.map (cN q)).map frD)
noncomputable def pdM (A B:List (List Rat)) (C:Nat):List (List Rat):=A.map λr=>(bf B C).map (cN r)
theorem p6 {R K C:Nat} {A B:List (List Rat)} (h1:Tq R K A) (h2:Tq K C B):Tq R C (pdM A B C):=⟨h1.r1,h1.r7,h2.c1,h2.c7,by unfold pdM; rw [List.length_map,h1.len],λr hr=>by
 unfold pdM at hr
 obtain ⟨x,_,rfl⟩:=List.mem_map.mp hr
 rw [List.length_map]
 exact (gY h2).len⟩
theorem uo {R K C:Nat} {A B:List (List Rat)} (h1:Tq R K A) (h2:Tq K C B) {i j:Nat} (hi:i < R) (hj:j < C):qM (pdM A B C) i j=mulQ K (qM A) (qM B) i j:=by
 have a1:i < A.length:=by rw [h1.len]; exact hi
 have e:qM (pdM A B C) i j=cN (A.getD i []) ((bf B C).getD j []):=by
   have a2:j < (bf B C).length:=by rw [(gY h2).len]; exact hj
   unfold qM pdM
   simp [a1,a2]
 rw [e]
 unfold cN mulQ
 rw [h1.at_ hi]
 refine av λk hk=>?_
 rw [<- pJ h2 hk hj]
 rfl
noncomputable def fy (ds:List D) (r:Sl):Prop:=∃ (R K C d v:Nat) (A B:List (List Rat)),ds=[tbQ A,tbQ B]/\Tq R K A/\Tq K C B/\(∀ r ∈ A,∀ x ∈ r,Qs d v x)/\(∀ r ∈ B,∀ x ∈ r,Qs d v x)/\2 + 2 * (K * d)<=8999/\v + (1 + K * d)<=8999/\v + d<=8999/\r=.o ((pdM A B C).map rwQ)
section
variable {P:Program} {w:World} {K:PySem.W.Frag} {mg:Str->Option Value} {base:Heap} {k:Nat} {f:Addr} {fd:FuncData} {qual:Str}
theorem jK (F:Fun K "column_of" qual (top 20) f fd) (hb:∀ x ∈ ao,mg x=none):aN P w K mg base CX0 (k + 1) f fd ["table","j"] (spD K cj):=by
 refine fnD F jf hb (by rintro _ _ ⟨_,_,_,_,rfl,_⟩; rfl) ?_
 rintro _ _ ⟨R,C,t,j,rfl,h,hj,rfl⟩ cdv A outer s H E b
 have r7:=h.r7
 refine aH (bL (cmp 0 (g:=λi=>rwQ (t.getD i [])) (f:=λi=>frD ((t.getD i []).getD j 0)) b (aS (aa 0)) (bN (f:=rwQ) (xs:=t) []) (by rw [List.length_map,h.len]; omega) λi hi s0 H0 fp=>(aP (aa 0) (aa 1) (aW (gp (f:=frD) (xs:=t.getD i []) 0 (i:=j) ?_))))) ?_
 · rw [h.at_ (by rw [List.length_map,h.len] at hi; exact hi)]; exact hj
 · refine congrArg Sl.o ((cf (λr:List Rat=>frD (r.getD j 0)) t [] (List.length_map ..)).trans ?_)
   unfold jq
   rw [List.map_map]
   rfl
theorem iB (F:Fun K "columns_of" qual (top 19) f fd) (hb:∀ x ∈ ao,mg x=none) (c_column_of:Cal P w K mg base k "column_of" cj):aN P w K mg base CX0 (k + 1) f fd ["table"] (spD K cT):=by
 refine fnD F iz hb (by rintro _ _ ⟨_,_,_,rfl,_⟩; rfl) ?_
 rintro _ _ ⟨R,C,t,rfl,h,rfl⟩ cdv A outer s H E b
 have r1:=h.r1
 have c7:=h.c7
 have e0:atI (t.map rwQ) 0=some (rwQ (t.getD 0 [])):=gp [] (i:=0) (by rw [h.len]; omega)
 refine aH (bL (cmp 0 (f:=λj=>rwQ (jq t j)) b (c8 (n:=(C:Nat)) b (a5 b (ab (aP (aa 0) ae (aW e0)) af) (fN (n:=C) (by rw [List.length_map]; exact h.at_ (by omega)))) (by omega) (by omega)) cY (by rw [aw]; omega) λj hj s0 H0 fp=>aR (x_call (b.comp s0 H0 _ fp) c_column_of (ab (aa 1) (ab (aa 0) af)) ⟨R,C,t,j,rfl,h,by rw [aw] at hj; omega,rfl⟩))) ?_
 unfold bf
 rw [aw,Int.toNat_natCast,List.map_map]
 rfl
theorem eo (F:Fun K "sum_of_products" qual (top 27) f fd) (hb:∀ x ∈ ao,mg x=none):aN P w K mg base CX0 (k + 1) f fd ["numbers","others"] (spD K bA):=by
 refine fnD F eD hb (by rintro _ _ ⟨_,_,_,rfl,_⟩; rfl) ?_
 rintro _ _ ⟨ns,ms,B,rfl,hl,h1,h2,hB,rfl⟩ cdv A outer s H E b
 have zl:(fF (ns.map D.int) (ms.map D.int)).length=min ns.length ms.length:=by rw [bX,List.length_map,List.length_map]
 refine aH (a5 b (ab (aR (bL (tH 0 1 (g:=λi=>.int (ns.getD i 0)) (g':=λi=>.int (ms.getD i 0)) (f:=λi=>.int (ns.getD i 0 * ms.getD i 0)) b (oP b (aa 0) (aa 1)) (kS 0 0) (by rw [zl]; omega) λi hi s0 H0 fp=>?_))) af) (so b.calm (jE ns ms) ?_)) rfl
 · rw [zl] at hi
   exact aA (aa 0) (aa 1) (bP ((h1 _ (a7 (by omega))).aF (h2 _ (a7 (by omega))) (by omega) (by omega)))
 · unfold jE
   rw [zl,List.map_map]
   rfl
theorem gy (F:Fun K "product_row" qual (top 26) f fd) (hb:∀ x ∈ ao,mg x=none) (c_scale_of:Cal P w K mg base k "scale_of" b8) (c_whole_row:Cal P w K mg base k "whole_row" cg) (c_fraction:Cal P w K mg base k "fraction" eA) (c_sum_of_products:Cal P w K mg base k "sum_of_products" bA):aN P w K mg base CX0 (k + 1) f fd ["row","whole_columns","scales"] (spD K cw):=by
 refine fnD F dJ hb (by rintro _ _ ⟨_,_,_,_,_,rfl,_⟩; rfl) ?_
 rintro _ _ ⟨K0,d,v,q,cl,rfl,hk,k7,hq,hl,hc,z1,z2,z3,rfl⟩ cdv A outer s H E b
 have nd:=dJ.nd
 have bq:=dF (d:=d) (r:=q) λx hx=>(hq x hx).den
 rw [hk] at bq
 have pq:=(cq q).1
 have lw:(whM cl (cl.map scL)).length=cl.length:=by simp [whM]
 have zl:(fF ((whM cl (cl.map scL)).map dtR) ((cl.map scL).map D.int)).length=cl.length:=by rw [bX,List.length_map,List.length_map,List.length_map,lw,Nat.min_self]
 refine az 3 nd (x_call b c_scale_of (ab (aa 0) af) ⟨q,d,rfl,by omega,λx hx=>(hq x hx).den,by rw [hk]; omega,by omega,rfl⟩) ?_
 refine az 4 nd (aR (x_call b c_whole_row (ab (aa 0) (ab (aa 3) af)) ⟨q,scL q,v + d,rfl,by omega,λx hx=>(hq x hx).sq,z3,bq.mono (by omega),rfl⟩)) ?_
 refine aH (bL (tH 0 1 (g:=λi=>dtR (whR (cl.getD i []) (scL (cl.getD i [])))) (g':=λi=>.int (scL (cl.getD i []))) (f:=λi=>frD (cN q (cl.getD i []))) b (oP b (aa 1) (aa 2)) (λi hi=>?_) (by rw [zl]; omega) λi hi s0 H0 fp=>?_)) ?_
 · have hi':i < cl.length:=by rw [zl] at hi; exact hi
   rw [kS [] 0 i hi]
   have e1:(cl.map scL).getD i 0=scL (cl.getD i []):=by simp [hi']
   have e2:(whM cl (cl.map scL)).getD i []=whR (cl.getD i []) ((cl.map scL).getD i 0):=by unfold whM; simp [hi']
   rw [e2,e1]
 · rw [zl] at hi
   have mi:=a7 (xs:=cl) (d:=[]) hi
   generalize cl.getD i []=c at mi ⊢
   obtain ⟨lc,qc⟩:=hc c mi
   obtain ⟨o1,o2⟩:=ur hk lc k7 hq qc
   have pc:=(cq c).1
   have bc:=dF (d:=d) (r:=c) λx hx=>(qc x hx).den
   rw [lc] at bc
   refine x_call (b.comp s0 H0 _ fp) c_fraction (ab (x_call (b.comp s0 H0 _ fp) c_sum_of_products (ab (aa 2) (ab (aa 0) af)) ⟨whR q (scL q),whR c (scL c),8999,rfl,by unfold whR; rw [List.length_map]; omega,λx hx=>?_,λx hx=>?_,by decide,rfl⟩) (ab (aA (aa 3) (aa 1) (bP (bq.aF bc (by omega) (by omega)))) af)) ⟨_,_,cN q c,rfl,Int.mul_pos pq pc,(bq.mul bc).mono (by omega),o1,rfl⟩
   · unfold whR at hx
     obtain ⟨y,hy,rfl⟩:=List.mem_map.mp hx
     exact (oy (hq y hy) ((cq q).2 y hy) bq).mono z2
   · unfold whR at hx
     obtain ⟨y,hy,rfl⟩:=List.mem_map.mp hx
     exact (oy (qc y hy) ((cq c).2 y hy) bc).mono z2
 · rw [zl]
   refine congrArg Sl.o ((cf (λc:List Rat=>frD (cN q c)) cl [] rfl).trans ?_)
   rw [List.map_map]
   rfl
theorem kU (F:Fun K "product" qual (top 25) f fd) (hb:∀ x ∈ ao,mg x=none) (c_look_table:Cal P w K mg base k "look_table" bx) (c_columns_of:Cal P w K mg base k "columns_of" cT) (c_whole_rows:Cal P w K mg base k "whole_rows" bV) (c_scale_of:Cal P w K mg base k "scale_of" b8) (c_product_row:Cal P w K mg base k "product_row" cw):aN P w K mg base CX0 (k + 1) f fd ["one","other"] (spD K fy):=by
 refine fnD F gL hb (by rintro _ _ ⟨_,_,_,_,_,_,_,rfl,_⟩; rfl) ?_
 rintro _ _ ⟨R,K0,C,d,v,A0,B,rfl,h1,h2,q1,q2,z1,z2,z3,rfl⟩ cdv A outer s H E b
 have nd:=gL.nd
 have r1:=h1.r1
 have r7:=h1.r7
 have k7:=h1.c7
 have c7:=h2.c7
 have hT:=gY h2
 have qT:=oq h2 q2
 have e0:atI (A0.map rwQ) 0=some (rwQ (A0.getD 0 [])):=gp [] (i:=0) (by rw [h1.len]; omega)
 refine ea (x_call b c_look_table (ab (aa 0) af) ⟨R,K0,A0,rfl,h1,rfl⟩) ?_
 refine ea (x_call b c_look_table (ab (aa 1) af) ⟨K0,C,B,rfl,h2,rfl⟩) ?_
 refine fQ (aU (a5 b (ab (aP (aa 0) ae (aW e0)) af) (fN (n:=K0) (by rw [List.length_map]; exact h1.at_ (by omega)))) (a5 b (ab (aa 1) af) (fN (n:=K0) (by rw [List.length_map]; exact h2.len))) iy) (by rw [decide_eq_true rfl]; rfl) ?_
 refine az 2 nd (aR (x_call b c_columns_of (ab (aa 1) af) ⟨K0,C,B,rfl,h2,rfl⟩)) ?_
 refine az 3 nd (s:=.d (.lst (((bf B C).map scL).map .int))) (aR (bL (cmp 0 (g:=λi=>rwQ ((bf B C).getD i [])) (f:=λi=>.int (scL ((bf B C).getD i []))) b (aS (aa 2)) (bN (f:=rwQ) (xs:=bf B C) []) (by rw [List.length_map,hT.len]; omega) λi hi s0 H0 fp=>(x_call (b.comp s0 H0 _ fp) c_scale_of (ab (aa 0) af) ⟨_,d,rfl,?_,?_,?_,?_,rfl⟩))) ?hx) ?_
 · rw [hT.at_ (by simpa [hT.len] using hi)]; omega
 · exact λx hx=>(qT _ (a7 (by simpa using hi)) x hx).den
 · rw [hT.at_ (by simpa [hT.len] using hi)]; omega
 · omega
 case hx=>exact congrArg (λl=>some (D.lst l)) ((cf (λr:List Rat=>D.int (scL r)) (bf B C) [] (List.length_map ..)).trans (by rw [List.map_map]; rfl))
 refine az 4 nd (aR (x_call b c_whole_rows (ab (aa 2) (ab (aa 3) af)) ⟨bf B C,(bf B C).map scL,v + d,rfl,by rw [List.length_map],by rw [hT.len]; omega,λr hr=>⟨by rw [hT.row r hr]; omega,λx hx=>(qT r hr x hx).sq⟩,z3,?_,rfl⟩)) ?_
 · intro s hs
   obtain ⟨r,hr,rfl⟩:=List.mem_map.mp hs
   have:=dF (d:=d) (r:=r) λx hx=>(qT _ hr x hx).den
   rw [hT.row r hr] at this
   exact this.mono (by omega)
 refine aH (bL (cmp 0 (g:=λi=>rwQ (A0.getD i [])) (f:=λi=>rwQ ((bf B C).map (cN (A0.getD i [])))) b (aS (aa 0)) (bN (f:=rwQ) (xs:=A0) []) (by rw [List.length_map,h1.len]; omega) λi hi s0 H0 fp=>aR (x_call (b.comp s0 H0 _ fp) c_product_row (ab (aa 0) (ab (aa 2) (ab (aa 1) af))) ⟨K0,d,v,_,bf B C,rfl,?_,k7,?_,by rw [hT.len]; omega,λc hc=>⟨hT.row c hc,qT c hc⟩,z1,z2,z3,rfl⟩))) ?_
 · exact h1.at_ (by simpa [h1.len] using hi)
 · exact q1 _ (a7 (by simpa using hi))
 · refine congrArg Sl.o ((cf (λr:List Rat=>rwQ ((bf B C).map (cN r))) A0 [] (List.length_map ..)).trans ?_)
   unfold pdM
   rw [List.map_map]
   rfl
end
noncomputable abbrev kT:Ev.KD (List Int):=Ev.uE Ev.vH
noncomputable abbrev kTT:Ev.KD (List Int × List Int):=Ev.tX kT kT
theorem hdT:kT.dep<=7:=by show 1<=7; decide
theorem iu:kTT.dep<=7:=by show 2<=7; decide
theorem dz {F:PySem.W.Frag} (c:List Int) (H:Hp) (v:V) (h:Den F H v (kT.toD c)):∃ b,v=.ref b:=by
 generalize e:kT.toD c=x at h
 cases h with
 | tup=>exact ⟨_,rfl⟩
 | _=>cases e
theorem lZ {F:PySem.W.Frag} (c:List Int × List Int) (H:Hp) (v:V) (h:Den F H v (kTT.toD c)):∃ b,v=.ref b:=by
 generalize e:kTT.toD c=x at h
 cases h with
 | tup=>exact ⟨_,rfl⟩
 | _=>cases e
section
variable {κ:Type} [DecidableEq κ]
theorem fJ (p:κ × D) (m:List (κ × D)) (k:κ):getM (p :: m) k=if p.1=k then some p.2 else getM m k:=by
 unfold getM
 rw [List.find?_cons]
 by_cases e:p.1=k
 · simp [e]
 · simp [e]
theorem iD (k k':κ) (x:D):∀ m:List (κ × D),getM (m.map λy=>if y.1=k then (y.1,x) else y) k'=if k=k'/\(getM m k).isSome then some x else getM m k'
 | []=>by simp [getM]
 | p :: m=>by
   rw [List.map_cons,fJ,iD k k' x m,fJ,fJ]
   by_cases e:p.1=k
   · rw [if_pos e,if_pos e]
     by_cases e':k=k'
     · simp [e,e']
     · simp [e,e']
   · rw [if_neg e,if_neg e]
     by_cases e':p.1=k'
     · simp [e',show ¬ k=k' from λz=>e (e'.trans z.symm)]
     · simp [e']
theorem kH (m:List (κ × D)) (k k':κ) (x:D):getM (c9 m k x) k'=if k=k' then some x else getM m k':=by
 unfold c9
 by_cases h:(getM m k).isSome
 · rw [if_pos h,iD]
   simp [h]
 · rw [if_neg h]
   have h:getM m k=none:=by simpa using h
   unfold getM at *
   rw [List.find?_append]
   by_cases e:k=k'
   · subst e
     have h:m.find? (λx=>decide (x.1=k))=none:=by simpa using h
     rw [h]
     simp
   · simp [e]
noncomputable def mkM (v:κ->D) (ks:List κ):List (κ × D):=ks.foldl (λm k=>c9 m k (v k)) []
theorem gU (v:κ->D) (ks:List κ) (k:κ):mkM v (ks++[k])=c9 (mkM v ks) k (v k):=by unfold mkM; rw [List.foldl_append]; rfl
theorem i0 (v:κ->D) (k:κ):∀ (ks:List κ) (m:List (κ × D)),getM (ks.foldl (λm k=>c9 m k (v k)) m) k=if k ∈ ks then some (v k) else getM m k
 | [],m=>by simp
 | k0 :: ks,m=>by
   rw [List.foldl_cons,i0 v k ks,kH]
   by_cases h:k ∈ ks
   · simp [h]
   · by_cases e:k0=k
     · simp [e]
     · simp [h,e,show ¬ k=k0 from λz=>e z.symm]
theorem eX {v:κ->D} {ks:List κ} {k:κ} (h:k ∈ ks):getM (mkM v ks) k=some (v k):=by unfold mkM; rw [i0,if_pos h]
theorem pv (m:List (κ × D)) (k:κ) (x:D):(c9 m k x).length<=m.length + 1:=by
 unfold c9
 split <;> simp
theorem iH (v:κ->D):∀ (ks:List κ) (m:List (κ × D)),(ks.foldl (λm k=>c9 m k (v k)) m).length<=m.length + ks.length
 | [],m=>by simp
 | k :: ks,m=>by
   rw [List.foldl_cons]
   have:=iH v ks (c9 m k (v k))
   have:=pv m k (v k)
   rw [List.length_cons]
   omega
theorem i6 (v:κ->D) (ks:List κ):(mkM v ks).length<=ks.length:=by unfold mkM; simpa using iH v ks []
theorem oo {m:List (κ × D)} {k:κ} {x:D} {p:κ × D} (h:p ∈ c9 m k x):p=(k,x)\/p ∈ m:=by
 unfold c9 at h
 split at h
 · obtain ⟨q,hq,e⟩:=List.mem_map.mp h
   by_cases z:q.1=k
   · rw [if_pos z] at e; exact .inl (by rw [<- e,z])
   · rw [if_neg z] at e; exact .inr (e ▸ hq)
 · rcases List.mem_append.mp h with h | h
   · exact .inr h
   · exact .inl (List.mem_singleton.mp h)
theorem i3 (v:κ->D) {p:κ × D}:∀ (ks:List κ) (m:List (κ × D)),p ∈ ks.foldl (λm k=>c9 m k (v k)) m->(p.1 ∈ ks/\p.2=v p.1)\/p ∈ m
 | [],m,h=>.inr h
 | k :: ks,m,h=>by
   rw [List.foldl_cons] at h
   rcases i3 v ks _ h with ⟨h1,h2⟩ | h
   · exact .inl ⟨List.mem_cons_of_mem _ h1,h2⟩
   · rcases oo h with e | h
     · exact .inl (by rw [e]; exact ⟨List.mem_cons_self ..,rfl⟩)
     · exact .inr h
theorem mJ {v:κ->D} {ks:List κ} {p:κ × D} (h:p ∈ mkM v ks):p.1 ∈ ks/\p.2=v p.1:=(i3 v ks [] h).elim id λz=>nomatch z
theorem pD {m:List (κ × D)} {k:κ} {x:D} (h:getM m k=some x):(k,x) ∈ m:=by
 unfold getM at h
 obtain ⟨p,h1,h2⟩:=Option.map_eq_some_iff.mp h
 have e:p.1=k:=by have:=List.find?_some h1; simpa using this
 rw [<- h2,<- e]
 exact List.mem_of_find?_eq_some h1
end
noncomputable def ers (c:List Int) (k:Nat):List Int:=c.take k++c.drop (k + 1)
noncomputable def alP (f:List Int->Int) (row c:List Int) (k:Nat):Int:=row.getD (c.getD k 0).toNat 0 * f (ers c k)
noncomputable def alS (f:List Int->Int) (row c:List Int):Nat->Int
 | 0=>0
 | k + 1=>if Int.fmod ((c.length:Int) - (k:Nat)) 2=0 then alS f row c k - alP f row c k else alS f row c k + alP f row c k
noncomputable def alR (f:List Int->Int) (row c:List Int):Int:=alS f row c c.length
theorem vA (c:List Int) (k:Nat):kT.toD (ers c k)=.tup (Hy.cutD (c.map D.int) none (some (k:Int))++Hy.cutD (c.map D.int) (some ((k:Int) + 1)) none):=by
 rw [show ((k:Int) + 1)=((k + 1:Nat):Int) from rfl,sN]
 have e:Hy.cutD (c.map D.int) (some ((k + 1:Nat):Int)) none=(c.map D.int).drop (k + 1):=by
   unfold Hy.cutD
   rw [HT.dP,HT.g8]
   rcases Nat.le_total (k + 1) (c.map D.int).length with h | h
   · rw [Nat.min_eq_left h,List.take_of_length_le (by rw [List.length_drop]; exact Nat.le_refl _)]
   · rw [Nat.min_eq_right h,List.drop_of_length_le (Nat.le_refl _),List.drop_of_length_le h,List.take_nil]
 rw [e]
 show D.tup ((ers c k).map D.int)=_
 unfold ers
 rw [List.map_append,List.map_take,List.map_drop]
noncomputable def bB (P:Program) (w:World) (ds:List D) (r:Sl):Prop:=∃ (m:List (List Int × D)) (f:List Int->Int) (row c:List Int) (n p:Nat),ds=[bxD kT hdT P w m,dtR row,tpD c]/\c.length<=7/\(∀ k,k < c.length->0<=c.getD k 0/\c.getD k 0 < row.length)/\(∀ k,k < c.length->getM m (ers c k)=some (.int (f (ers c k)))/\Bd p (f (ers c k)))/\(∀ x ∈ row,Bd n x)/\n<=10000/\p<=10000/\r=.d (.int (alR f row c))
section
variable {P:Program} {w:World} {K:PySem.W.Frag} {mg:Str->Option Value} {base:Heap} {k:Nat} {f:Addr} {fd:FuncData} {qual:Str}
theorem eO (F:Fun K "along_last_row" qual (top 32) f fd) (hb:∀ x ∈ ao,mg x=none):aN P w K mg base CX0 (k + 1) f fd ["known","row","columns"] (spD K (bB P w)):=by
 refine fnD F cn hb (by rintro _ _ ⟨_,_,_,_,_,_,rfl,_⟩; rfl) ?_
 rintro _ _ ⟨m,g,row,c,n,p,rfl,h7,hc,hg,hr,hn,hp,rfl⟩ cdv A outer s H E b
 have nd:=cn.nd
 have hu:(Xc P w K mg base ["known","row","columns","total","k","part"] qual (top 32) f cdv A outer s H E).A.units + 16 < cLine:=Nat.lt_of_le_of_lt (Nat.add_le_add_left (by decide:16<=64) _) b.room.units
 have lc:(c.map D.int).length=c.length:=List.length_map ..
 refine az 3 nd ae ?_
 refine bI 4 (λi τ=>i<=c.length/\∃ s4 s5,τ=[.d (bxD kT hdT P w m),.d (dtR row),.d (tpD c),.d (.int (alS g row c i)),s4,s5]) b nd (c8 b (a5 b (ab (aa 2) af) lu) (by omega) (by omega)) cY ⟨Nat.zero_le _,.un,.un,rfl⟩ (λi hi τ h=>?_) λτ h=>?_
 · obtain ⟨_,s4,s5,rfl⟩:=h
   have hi:i < c.length:=by rw [aw,lc] at hi; omega
   obtain ⟨c1,c2⟩:=hc i hi
   obtain ⟨g1,g2⟩:=hg i hi
   have ht:(c.getD i 0).toNat < row.length:=by omega
   refine az 5 nd (aA (aP (aa 1) (aP (aa 2) (aa 4) (a6 (atR hi))) (aW (lP c1 ht))) (la (a:=kT) (hd:=hdT) (m:=m) (key:=ers c i) hu (aa 0) (by
     rw [vA]
     exact aA (oB (aa 2) kX (er (aa 4)) (by rw [HT.dP,lc]; omega)) (oB (aa 2) (er (aA (aa 4) ae aT)) kX (by rw [show ((i:Int) + 1)=((i + 1:Nat):Int) from rfl,HT.dP,lc]; omega)) (pE (by
       have l1:∀ l u,(Hy.cutD (c.map D.int) l u).length<=7:=λl u=>by unfold Hy.cutD; rw [List.length_take,List.length_drop,lc]; omega
       have:=l1 none (some (i:Int))
       have:=l1 (some ((i:Int) + 1)) none
       omega))) g1 (dz _) pS) (bP ((hr _ (cS ht)).aF g2 (by omega) (by omega)))) ?_
   refine az 3 nd (mY (s:=.d (.int (alS g row c (i + 1)))) (aU (aA (aA (a5 b (ab (aa 2) af) lu) (aa 4) eY) ae (cb (by decide))) ae dQ) (λh=>?_) λh=>?_) (aO ⟨hi,_,_,rfl⟩)
   · have h:=of_decide_eq_true h
     rw [lc] at h
     rw [alS,if_pos h]
     exact aA (aa 3) (aa 5) eY
   · have h:=of_decide_eq_false h
     rw [lc] at h
     rw [alS,if_neg h]
     exact aA (aa 3) (aa 5) aT
 · obtain ⟨_,s4,s5,rfl⟩:=h
   refine aH (aa 3) ?_
   rw [aw,lc,Int.toNat_natCast]
   rfl
end
noncomputable def orM (f:List Int->Int) (row:List Int) (cs:List (List Int)):List (List Int × D):=mkM (λc=>D.int (alR f row c)) cs
noncomputable def b5 (P:Program) (w:World) (ds:List D) (r:Sl):Prop:=∃ (m:List (List Int × D)) (f:List Int->Int) (row:List Int) (cs:List (List Int)) (n p:Nat),ds=[bxD kT hdT P w m,dtR row,js cs]/\cs.length<=100000/\(∀ c ∈ cs,c.length<=7/\(∀ k,k < c.length->0<=c.getD k 0/\c.getD k 0 < row.length)/\(∀ k,k < c.length->getM m (ers c k)=some (.int (f (ers c k)))/\Bd p (f (ers c k))))/\(∀ x ∈ row,Bd n x)/\n<=10000/\p<=10000/\r=.d (bxD kT hdT P w (orM f row cs))
section
variable {P:Program} {w:World} {K:PySem.W.Frag} {mg:Str->Option Value} {base:Heap} {k:Nat} {f:Addr} {fd:FuncData} {qual:Str}
theorem fV (F:Fun K "one_row_more" qual (top 31) f fd) (hb:∀ x ∈ ao,mg x=none) (c_along_last_row:Cal P w K mg base k "along_last_row" (bB P w)):aN P w K mg base CX0 (k + 1) f fd ["known","row","column_choices"] (spD K (b5 P w)):=by
 refine fnD F cZ hb (by rintro _ _ ⟨_,_,_,_,_,_,rfl,_⟩; rfl) ?_
 rintro _ _ ⟨m,g,row,cs,n,p,rfl,h1,hc,hr,hn,hp,rfl⟩ cdv A outer s H E b
 have nd:=cZ.nd
 have hu:(Xc P w K mg base ["known","row","column_choices","found","columns"] qual (top 31) f cdv A outer s H E).A.units + 16 < cLine:=Nat.lt_of_le_of_lt (Nat.add_le_add_left (by decide:16<=64) _) b.room.units
 refine az 3 nd (lL (a:=kT) (hd:=hdT)) ?_
 refine bI 4 (g:=λi=>tpD (cs.getD i [])) (λi τ=>∃ s4,τ=[.d (bxD kT hdT P w m),.d (dtR row),.d (js cs),.x (exK kT hdT P w (orM g row (cs.take i))),s4]) b nd (aS (aa 2)) qH ⟨.un,rfl⟩ (λi hi τ h=>?_) λτ h=>?_
 · obtain ⟨s4,rfl⟩:=h
   have hi:i < cs.length:=by simpa using hi
   obtain ⟨c1,c2,c3⟩:=hc _ (cS (d:=[]) hi)
   have ln:=i6 (λc=>D.int (alR g row c)) (cs.take i)
   rw [List.length_take] at ln
   refine lg 3 (a:=kT) (hd:=hdT) (key:=cs.getD i []) (x:=.int (alR g row (cs.getD i []))) hu rfl (aa 4) (x_call b c_along_last_row (ab (aa 0) (ab (aa 1) (ab (aa 4) af))) ⟨m,g,row,_,n,p,rfl,c1,c2,c3,hr,hn,hp,rfl⟩) (Nat.le_trans ln (by unfold sizeLine; omega)) (dz _) (aO ⟨.d (tpD (cs.getD i [])),?_⟩)
   rw [take_snoc [] hi]
   unfold orM
   rw [gU]
   rfl
 · obtain ⟨s4,rfl⟩:=h
   refine rW 3 (a:=kT) (hd:=hdT) (aH (aa 3) ?_)
   rw [List.length_map,List.take_of_length_le (Nat.le_refl _)]
   rfl
end
theorem tQ:∀ n,n < 8->∀ t,t < 7->((chs n (t + 1)).all λc=>(chs n t).contains (c.take t) && (List.range (t + 1)).all λk=>(chs n t).contains (ers c k))=true:=by decide +kernel
theorem jF:∀ n,n < 8->∀ t,t < 8->(chs n t).length<=35:=by decide +kernel
theorem jG {n t:Nat} {c:List Int} (hn:n<=7) (ht:t < 7) (h:c ∈ chs n (t + 1)):c.take t ∈ chs n t/\∀ k,k < t + 1->ers c k ∈ chs n t:=by
 have:=List.all_eq_true.mp (tQ n (by omega) t ht) c h
 rw [Bool.and_eq_true] at this
 obtain ⟨h1,h2⟩:=this
 refine ⟨by simpa using h1,λk hk=>?_⟩
 have:=List.all_eq_true.mp h2 k (List.mem_range.mpr hk)
 simpa using this
noncomputable def dtm (R:List (List Int)):Nat->List Int->List Int->Int
 | 0,_,_=>1
 | t + 1,ls,c=>alR (dtm R t (ls.take t)) (R.getD (dR ls).toNat []) c
structure Rw (m n b:Nat) (R:List (List Int)):Prop where
 len:R.length=m
 row:∀ r ∈ R,r.length=n/\∀ x ∈ r,Bd b x
 m1:1<=m/\m<=7
 n1:1<=n/\n<=7
 b1:b<=1400
theorem ot {f:List Int->Int} {row c:List Int} {N:Nat}:∀ k,(∀ i,i < k->(alP f row c i).natAbs<=N)->(alS f row c k).natAbs<=k * N
 | 0,_=>by simp [alS]
 | k + 1,h=>by
   have ih:=ot k λi hi=>h i (by omega)
   have h1:=h k (by omega)
   rw [alS,Nat.succ_mul]
   split <;> omega
theorem tj {f:List Int->Int} {row c:List Int} {n p:Nat} (h7:c.length<=7) (hr:∀ x ∈ row,Bd n x) (hf:∀ k,k < c.length->Bd p (f (ers c k))):Bd (n + p + 3) (alR f row c):=by
 have h:=ot (f:=f) (row:=row) (c:=c) (N:=2 ^ (n + p)) c.length λi hi=>by
   have h1:Bd n (row.getD (c.getD i 0).toNat 0):=by
     by_cases h:(c.getD i 0).toNat < row.length
     · exact hr _ (cS h)
     · rw [getD_none (by omega)]
       exact Nat.two_pow_pos n
   exact Nat.le_of_lt (h1.mul (hf i hi))
 unfold Bd alR
 have e:2 ^ (n + p + 3)=8 * 2 ^ (n + p):=by rw [Nat.pow_add]; omega
 have p0:=Nat.two_pow_pos (n + p)
 have:c.length * 2 ^ (n + p)<=7 * 2 ^ (n + p):=Nat.mul_le_mul_right _ h7
 omega
theorem pG {m n b:Nat} {R:List (List Int)} (h:Rw m n b R):∀ t,t<=7->∀ ls c,c ∈ chs n t->Bd (1 + t * (b + 3)) (dtm R t ls c)
 | 0,_,_,_,_=>by unfold Bd dtm; rw [Nat.zero_mul]; decide
 | t + 1,ht,ls,c,hc=>by
   have l:=(bQ n _ c hc).len
   have:=tj (f:=dtm R t (ls.take t)) (row:=R.getD (dR ls).toNat []) (c:=c) (n:=b) (p:=1 + t * (b + 3)) (by omega) (λx hx=>by
     by_cases hl:(dR ls).toNat < R.length
     · exact (h.row _ (cS hl)).2 x hx
     · rw [getD_none (by omega)] at hx
       cases hx) λk hk=>pG h t (by omega) _ _ ((jG h.n1.2 (by omega) hc).2 k (by omega))
   rw [dtm]
   refine this.mono ?_
   rw [Nat.succ_mul]
   omega
noncomputable def iA (P:Program) (w:World) (R:List (List Int)) (n t:Nat) (ls:List Int):D:=bxD kT hdT P w (mkM (λc=>D.int (dtm R t ls c)) (chs n t))
noncomputable def knM (P:Program) (w:World) (R:List (List Int)) (m n t:Nat):List (List Int × D):=mkM (iA P w R n t) (chs m t)
noncomputable def ky1 (n t:Nat) (ls:List Int):List (List Int × List Int):=(chs n t).map λc=>(ls,c)
noncomputable def kys (m n i:Nat):List (List Int × List Int):=(List.range i).flatMap λt=>(chs m (t + 1)).flatMap (ky1 n (t + 1))
noncomputable def vD (R:List (List Int)) (p:List Int × List Int):Int:=dtm R p.1.length p.1 p.2
noncomputable def fdM (R:List (List Int)) (ks:List (List Int × List Int)):List ((List Int × List Int) × D):=mkM (λp=>D.int (vD R p)) ks
theorem oZ {n t:Nat} (hn:n<=7) (ht:t<=7):∀ ls:List (List Int),ls.length<=35->(ls.flatMap (ky1 n t)).length<=1225:=λls hl=>by
 have:=dM (ky1 n t) 35 ls λx _=>by unfold ky1; rw [List.length_map]; exact jF n (by omega) t (by omega)
 omega
theorem kys_len {m n i:Nat} (hm:m<=7) (hn:n<=7) (hi:i<=7):(kys m n i).length<=8575:=by
 have:=dM (λt=>(chs m (t + 1)).flatMap (ky1 n (t + 1))) 1225 (List.range i) λt ht=>oZ hn (by have:=List.mem_range.mp ht; omega) _ (jF m (by omega) _ (by have:=List.mem_range.mp ht; omega))
 rw [List.length_range] at this
 unfold kys
 omega
noncomputable def bo (P:Program) (w:World) (ds:List D) (r:Sl):Prop:=∃ (R:List (List Int)) (m n b:Nat),ds=[.lst (R.map dtR)]/\Rw m n b R/\r=.d (.box (bxW kTT iu P w (fdM R (kys m n (min m n)))))
theorem pH {R:List (List Int)} {i:Int} (h0:0<=i) (h:i.toNat < R.length):atI (R.map dtR) i=some (dtR (R.getD i.toNat [])):=by
 obtain ⟨n,rfl⟩:=Int.eq_ofNat_of_zero_le h0
 exact aV (by
   have h:n < R.length:=h
   simp [h])
theorem sC (c:List Int) (t:Nat) (h:c.length=t + 1):D.tup (Hy.cutD (c.map D.int) none (some (-1)))=kT.toD (c.take t):=by
 unfold Hy.cutD
 have e:HT.sIx (c.map D.int).length (c.map D.int).length (some (-1))=t:=by
   unfold HT.sIx
   simp only []
   rw [if_pos (by decide),List.length_map,h]
   omega
 rw [e,HT.g8,List.drop_zero,Nat.sub_zero,<- List.map_take]
 rfl
theorem kn0 (P:Program) (w:World) (R:List (List Int)) (m n:Nat):knM P w R m n 0=[([],bxD kT hdT P w [([],.int 1)])]:=rfl
section
variable {P:Program} {w:World} {K:PySem.W.Frag} {mg:Str->Option Value} {base:Heap} {k:Nat} {f:Addr} {fd:FuncData} {qual:Str}
set_option maxHeartbeats 1000000 in
theorem dU (F:Fun K "all_determinants" qual (top 30) f fd) (hb:∀ x ∈ ao,mg x=none) (c_choices_of:Cal P w K mg base k "choices_of" cO) (c_one_row_more:Cal P w K mg base k "one_row_more" (b5 P w)):aN P w K mg base CX0 (k + 1) f fd ["rows"] (spD K (bo P w)):=by
 refine fnD F bS hb (by rintro _ _ ⟨_,_,_,_,rfl,_⟩; rfl) ?_
 rintro _ _ ⟨R,m,n,b0,rfl,ok,rfl⟩ cdv A outer s H E b
 have nd:=bS.nd
 have hu:(Xc P w K mg base ["rows","found","known","size","fresh","column_choices","some","columns"] qual (top 30) f cdv A outer s H E).A.units + 16 < cLine:=Nat.lt_of_le_of_lt (Nat.add_le_add_left (by decide:16<=64) _) b.room.units
 obtain ⟨⟨m1,m7⟩,n1,n7⟩:=And.intro ok.m1 ok.n1
 have lR:(R.map dtR).length=m:=by rw [List.length_map,ok.len]
 have r0:(R.getD 0 []).length=n:=(ok.row _ (cS (by rw [ok.len]; omega))).1
 have lr0:((R.getD 0 []).map D.int).length=n:=by rw [List.length_map,r0]
 have a0:atI (R.map dtR) 0=some (dtR (R.getD 0 [])):=pH (i:=0) (by decide) (by rw [ok.len]; show 0 < m; omega)
 have hmin:(if ((((R.getD 0 []).map D.int).length:Nat):Int) < ((R.map dtR).length:Nat) then ((((R.getD 0 []).map D.int).length:Nat):Int) else ((R.map dtR).length:Nat))=((min m n:Nat):Int):=by
   rw [lR,lr0]
   split <;> omega
 refine az 1 nd (lL (a:=kTT) (hd:=iu)) ?_
 generalize e:Expr.Dict [some (Expr.Tuple [] 0 _)] _ _=ex
 refine az 2 nd (s:=.d (bxD kT hdT P w [([],bxD kT hdT P w [([],.int 1)])])) ?_ ?_ (hs:=by subst e; rfl)
 · subst e
   generalize e:Expr.Dict [some (Expr.Tuple [] 0 _)] [Expr.Constant _ _ _] _=ex
   refine rY (a:=kT) (hd:=hdT) (oI (a:=kT) (hd:=hdT) (key:=[]) (x:=bxD kT hdT P w [([],.int 1)]) hu ?_ ?_ (dz []))
   · show PE _ _ (dE _ _ _ (.d (.tup [])))
     exact bO af
   · subst e
     refine rY (a:=kT) (hd:=hdT) (m:=[([],.int 1)]) (oI (a:=kT) (hd:=hdT) (key:=[]) (x:=.int 1) hu ?_ ae (dz []))
     show PE _ _ (dE _ _ _ (.d (.tup [])))
     exact bO af
 refine bI 3 (g:=λi=>.int (1 + (i:Nat))) (λi τ=>i<=min m n/\∃ s3 s4 s5 s6 s7,τ=[.d (.lst (R.map dtR)),.x (exK kTT iu P w (fdM R (kys m n i))),.d (bxD kT hdT P w (knM P w R m n i)),s3,s4,s5,s6,s7]) b nd (gw b ae (aA (a5 b (ab (a5 b (ab (aa 0) af) dX) (ab (a5 b (ab (aP (aa 0) ae (aW a0)) af) dX) af)) (mq b.calm)) ae aT) (by rw [hmin]; omega)) (λk hk=>e8 _ _ k hk) ⟨Nat.zero_le _,.un,.un,.un,.un,.un,by rw [kn0]; rfl⟩ (λi hi τ h=>?_) λτ h=>?_
 · obtain ⟨_,s3,s4,s5,s6,s7,rfl⟩:=h
   have hi:i < min m n:=by rw [aw,hmin] at hi; omega
   have e1:(1 + (i:Nat):Int)=((i + 1:Nat):Int):=by omega
   rw [e1]
   refine az 4 nd (lL (a:=kT) (hd:=hdT)) ?_
   refine az 5 nd (x_call b c_choices_of (ab (a5 b (ab (aP (aa 0) ae (aW a0)) af) dX) (ab (aa 3) af)) ⟨n,i + 1,by rw [lr0],n7,by omega,rfl⟩) ?_
   refine bI 6 (g:=λl=>tpD ((chs m (i + 1)).getD l [])) (λl τ=>∃ s6 s7,τ=[.d (.lst (R.map dtR)),.x (exK kTT iu P w (fdM R (kys m n i++((chs m (i + 1)).take l).flatMap (ky1 n (i + 1))))),.d (bxD kT hdT P w (knM P w R m n i)),.d (.int ((i + 1:Nat):Int)),.x (exK kT hdT P w (mkM (iA P w R n (i + 1)) ((chs m (i + 1)).take l))),.d (js (chs n (i + 1))),s6,s7]) b nd (aS (x_call b c_choices_of (ab (a5 b (ab (aa 0) af) dX) (ab (aa 3) af)) ⟨m,i + 1,by rw [lR],m7,by omega,rfl⟩)) qH ⟨s6,s7,by simp [mkM]; rfl⟩ (λl hl τ h=>?_) λτ h=>?_
   · obtain ⟨s6,s7,rfl⟩:=h
     have hl:l < (chs m (i + 1)).length:=by simpa using hl
     have hs:=cS (d:=[]) hl
     generalize hls:(chs m (i + 1)).getD l []=ls at hs
     have okl:=bQ m _ ls hs
     have l35:=jF m (by omega) (i + 1) (by omega)
     have n35:=jF n (by omega) (i + 1) (by omega)
     have lf:=i6 (iA P w R n (i + 1)) ((chs m (i + 1)).take l)
     rw [List.length_take] at lf
     have ne:ls ≠ []:=λz=>by have:=okl.len; rw [z] at this; cases this
     have last:0<=dR ls/\dR ls < m:=by
       have:=okl.at_ i (by omega)
       unfold dR
       rw [okl.len]
       exact this
     have hlr:(dR ls).toNat < R.length:=by rw [ok.len]; omega
     have hrow:=ok.row _ (cS (d:=[]) hlr)
     have pre:=(jG m7 (by omega) hs).1
     have key:kT.toD (ls.take i)=D.tup (Hy.cutD (ls.map D.int) none (some (-1))):=(sC ls i okl.len).symm
     refine lg 4 (a:=kT) (hd:=hdT) (key:=ls) (x:=iA P w R n (i + 1) ls) hu rfl (aa 6) (x_call b c_one_row_more (ab (la (a:=kT) (hd:=hdT) (m:=knM P w R m n i) (key:=ls.take i) (x:=iA P w R n i (ls.take i)) hu (aa 2) (by
       rw [key]
       refine oB (aa 6) kX (er (fL ae)) ?_
       rintro ⟨_,z⟩
       have e:HT.sIx (ls.map D.int).length (ls.map D.int).length (some (-1))=i:=by
         unfold HT.sIx
         simp only []
         rw [if_pos (by decide),List.length_map,okl.len]
         omega
       rw [e,List.length_map,okl.len] at z
       omega) (eX pre) (dz _) λ_ _=>rfl) (ab (aP (aa 0) (aP (aa 6) (fL ae) (a6 (ma ne))) (aW (pH last.1 hlr))) (ab (aa 5) af))) ⟨_,dtm R i (ls.take i),_,_,b0,1 + i * (b0 + 3),rfl,by omega,λc hc=>?_,hrow.2,by have:=ok.b1; omega,?_,rfl⟩) (Nat.le_trans lf (by unfold sizeLine; omega)) (dz _) ?_
     · have okc:=bQ n _ c hc
       refine ⟨by rw [okc.len]; omega,λk hk=>?_,λk hk=>?_⟩
       · rw [hrow.1]
         exact okc.at_ k (by rw [okc.len] at hk; exact hk)
       · have hk:k < i + 1:=by rw [okc.len] at hk; exact hk
         have:=(jG n7 (by omega) hc).2 k hk
         exact ⟨eX this,pG ok i (by omega) _ _ this⟩
     · have:=ok.b1
       have:i * (b0 + 3)<=6 * (b0 + 3):=Nat.mul_le_mul_right _ (by omega)
       omega
     have kl:=kys_len (i:=i) m7 n7 (by omega)
     have kk:=oZ (t:=i + 1) n7 (by omega) ((chs m (i + 1)).take l) (by rw [List.length_take]; omega)
     refine bI 7 (g:=λj=>tpD ((chs n (i + 1)).getD j [])) (λj τ=>∃ s7,τ=[.d (.lst (R.map dtR)),.x (exK kTT iu P w (fdM R (kys m n i++((chs m (i + 1)).take l).flatMap (ky1 n (i + 1))++((chs n (i + 1)).take j).map λc=>(ls,c)))),.d (bxD kT hdT P w (knM P w R m n i)),.d (.int ((i + 1:Nat):Int)),.x (exK kT hdT P w (c9 (mkM (iA P w R n (i + 1)) ((chs m (i + 1)).take l)) ls (iA P w R n (i + 1) ls))),.d (js (chs n (i + 1))),.d (tpD ls),s7]) b nd (aS (aa 5)) qH ⟨s7,by simp; rfl⟩ (λj hj τ h=>?_) λτ h=>?_
     · obtain ⟨s7,rfl⟩:=h
       have hj:j < (chs n (i + 1)).length:=by simpa using hj
       have hc:=cS (d:=[]) hj
       generalize hcs:(chs n (i + 1)).getD j []=c at hc
       have gF:getM (c9 (mkM (iA P w R n (i + 1)) ((chs m (i + 1)).take l)) ls (iA P w R n (i + 1) ls)) ls=some (iA P w R n (i + 1) ls):=by rw [kH,if_pos rfl]
       refine lg 1 (a:=kTT) (hd:=iu) (key:=(ls,c)) (x:=.int (vD R (ls,c))) hu rfl (bO (ab (aa 6) (ab (aa 7) af))) (la (a:=kT) (hd:=hdT) (key:=c) hu (tm 4 (a:=kT) (hd:=hdT) (key:=ls) hu rfl (aa 6) gF (dz _) jy) (aa 7) ?_ (dz _) jy) ?_ (lZ _) (aO ⟨.d (tpD c),?_⟩)
       · rw [eX hc]
         show _=some (D.int (dtm R ls.length ls c))
         rw [okl.len]
       · refine Nat.le_trans (i6 _ _) ?_
         rw [List.length_append,List.length_append,List.length_map,List.length_take]
         unfold sizeLine
         omega
       · rw [take_snoc [] hj,hcs,List.map_append,<- List.append_assoc]
         unfold fdM
         rw [List.map_singleton,gU]
         rfl
     · obtain ⟨s7,rfl⟩:=h
       refine aO ⟨.d (tpD ls),s7,?_⟩
       rw [take_snoc [] hl,hls,gU,List.flatMap_append,List.length_map,List.take_of_length_le (Nat.le_refl _),List.append_assoc]
       simp [ky1]
   · obtain ⟨s6,s7,rfl⟩:=h
     refine rW 4 (a:=kT) (hd:=hdT) (az 2 nd (aa 4) (aO ⟨hi,.d (.int ((i + 1:Nat):Int)),.d (bxD kT hdT P w (knM P w R m n (i + 1))),.d (js (chs n (i + 1))),s6,s7,?_⟩))
     rw [List.length_map,List.take_of_length_le (Nat.le_refl _)]
     have e:kys m n (i + 1)=kys m n i++(chs m (i + 1)).flatMap (ky1 n (i + 1)):=by unfold kys; rw [List.range_succ,List.flatMap_append]; simp
     rw [e]
     rfl
 · obtain ⟨_,s3,s4,s5,s6,s7,rfl⟩:=h
   refine vm 1 (a:=kTT) (hd:=iu) (aH (aa 1) ?_)
   rw [aw,hmin]
   show Sl.d (.box (bxW kTT iu P w (fdM R (kys m n ((((min m n:Nat):Int) + 1) - 1).toNat))))=_
   rw [Int.add_sub_cancel,Int.toNat_natCast]
end
theorem rw_ok {m n d v:Nat} {M:List (List Rat)} (t:Tq m n M) (hq:∀ r ∈ M,∀ x ∈ r,Qs d v x) (hb:v + (1 + n * d)<=1400):Rw m n (v + (1 + n * d)) (whM M (M.map scL)):=by
 refine ⟨by unfold whM; simp [t.len],λr hr=>?_,⟨t.r1,t.r7⟩,⟨t.c1,t.c7⟩,hb⟩
 unfold whM at hr
 obtain ⟨i,hi,rfl⟩:=List.mem_map.mp hr
 rw [List.mem_range] at hi
 have mi:M.getD i [] ∈ M:=a7 hi
 refine ⟨by unfold whR; rw [List.length_map]; exact t.row _ mi,λx hx=>?_⟩
 unfold whR at hx
 obtain ⟨q,hq',rfl⟩:=List.mem_map.mp hx
 have e:(M.map scL).getD i 0=scL (M.getD i []):=by simp [hi]
 rw [e]
 have:=dF (d:=d) (r:=M.getD i []) λx hx=>(hq _ mi x hx).den
 rw [t.row _ mi] at this
 exact oy (hq _ mi q hq') ((cq _).2 q hq') this
noncomputable def fuO (R:List (List Int)) (m n:Nat) (t:Int):Option (List Int × List Int):=(((fdM R (kys m n (min m n))).map (·.1)).find? λp=>decide (vD R p < t))
noncomputable def fuD:Option (List Int × List Int)->D
 | none=>.non
 | some p=>.tup [.lst (p.1.map .int),.lst (p.2.map .int)]
theorem qk {R:List (List Int)} {m n:Nat} {t:Int}:fuO R m n t=none ↔ ∀ p ∈ kys m n (min m n),t<=vD R p:=by
 unfold fuO
 rw [List.find?_eq_none]
 constructor
 · intro h p hp
   have:=h p (List.mem_map.mpr ⟨_,pD (eX (v:=λp=>D.int (vD R p)) hp),rfl⟩)
   have:=of_decide_eq_false (by simpa using this:decide (vD R p < t)=false)
   omega
 · intro h p hp
   obtain ⟨q,hq,rfl⟩:=List.mem_map.mp hp
   have:=h _ (mJ hq).1
   simp
   omega
theorem uz {X:Cx} {o:Option (List Int × List Int)}:cD X (compareOp .Is) (fuD o) .non (.bl o.isNone):=⟨_,sR,λ_ v w H Q _ d1 d2 k=>by
 cases d2
 cases o with
 | none=>cases d1; exact ⟨rfl,by rw [decide_eq_true rfl]; exact k _ H (aq.refl _) .bl⟩
 | some i=>cases d1; exact ⟨rfl,by rw [decide_eq_false (by intro z; cases z)]; exact k _ H (aq.refl _) .bl⟩⟩
noncomputable def cx (ds:List D) (r:Sl):Prop:=∃ (m n d v:Nat) (M:List (List Rat)) (t:Int),ds=[tbQ M,.int t]/\Tq m n M/\(∀ r ∈ M,∀ x ∈ r,Qs d v x)/\v + (1 + n * d)<=1400/\r=.d (fuD (fuO (whM M (M.map scL)) m n t))
noncomputable def dD (ds:List D) (r:Sl):Prop:=∃ (m n d v:Nat) (M:List (List Rat)),ds=[tbQ M]/\Tq m n M/\(∀ r ∈ M,∀ x ∈ r,Qs d v x)/\v + (1 + n * d)<=1400/\r=.d (.bl (fuO (whM M (M.map scL)) m n 1).isNone)
section
variable {P:Program} {w:World} {K:PySem.W.Frag} {mg:Str->Option Value} {base:Heap} {k:Nat} {f:Addr} {fd:FuncData} {qual:Str}
set_option maxHeartbeats 1000000 in
theorem hR (F:Fun K "first_under" qual (top 29) f fd) (hb:∀ x ∈ ao,mg x=none) (c_all_determinants:Cal P w K mg base k "all_determinants" (bo P w)) (c_whole_rows:Cal P w K mg base k "whole_rows" bV) (c_scale_of:Cal P w K mg base k "scale_of" b8):aN P w K mg base CX0 (k + 1) f fd ["table","bound"] (spD K cx):=by
 refine fnD F di hb (by rintro _ _ ⟨_,_,_,_,_,_,rfl,_⟩; rfl) ?_
 rintro _ _ ⟨m,n,d,v,M,t,rfl,tq,hq,hz,rfl⟩ cdv A outer s H E b
 have nd:=di.nd
 have hu:(Xc P w K mg base ["table","bound","found","choices"] qual (top 29) f cdv A outer s H E).A.units + 16 < cLine:=Nat.lt_of_le_of_lt (Nat.add_le_add_left (by decide:16<=64) _) b.room.units
 have r7:=tq.r7
 have c7:=tq.c7
 have nd1:d<=n * d:=Nat.le_mul_of_pos_left d tq.c1
 have ok:=rw_ok tq hq hz
 generalize hRR:whM M (M.map scL)=R at ok
 have es:(D.lst ((M.map scL).map .int))=.lst ((List.range (M.map rwQ).length).map λi=>D.int (scL (M.getD i []))):=by
   exact congrArg D.lst (((cf (λr:List Rat=>D.int (scL r)) M [] (List.length_map ..)).trans (by rw [List.map_map]; rfl)).symm)
 refine az 2 nd (x_call b c_all_determinants (ab (aR (x_call b c_whole_rows (ab (aa 0) (ab (aR (bL (cmp 0 (g:=λi=>rwQ (M.getD i [])) (f:=λi=>.int (scL (M.getD i []))) b (aS (aa 0)) (bN (f:=rwQ) (xs:=M) []) (by rw [List.length_map,tq.len]; omega) λi hi s0 H0 fp=>(x_call (b.comp s0 H0 _ fp) c_scale_of (ab (aa 0) af) ⟨_,d,rfl,?_,?_,?_,?_,rfl⟩)))) af)) ⟨M,M.map scL,v + d,by rw [es],by rw [List.length_map],by rw [tq.len]; omega,λr hr=>⟨by rw [tq.row r hr]; omega,λx hx=>(hq r hr x hx).sq⟩,by omega,?_,rfl⟩)) af) ⟨R,m,n,_,by rw [hRR],ok,rfl⟩) ?_
 · rw [tq.row _ (a7 (by simpa using hi))]; omega
 · exact λx hx=>(hq _ (a7 (by simpa using hi)) x hx).den
 · rw [tq.row _ (a7 (by simpa using hi))]; omega
 · omega
 · intro s hs
   obtain ⟨r,hr,rfl⟩:=List.mem_map.mp hs
   have:=dF (d:=d) (r:=r) λx hx=>(hq _ hr x hx).den
   rw [tq.row r hr] at this
   exact this.mono (by omega)
 have hall:∀ p ∈ (fdM R (kys m n (min m n))).map (·.1),getM (fdM R (kys m n (min m n))) p=some (.int (vD R p)):=λp hp=>by
   obtain ⟨q,hq,rfl⟩:=List.mem_map.mp hp
   exact eX (mJ hq).1
 unfold fuO
 generalize hks:(fdM R (kys m n (min m n))).map (·.1)=ks at hall
 have em:(fdM R (kys m n (min m n))).map (λp=>kTT.toD p.1)=ks.map kTT.toD:=by rw [<- hks,List.map_map]; rfl
 refine bI 3 (g:=λi=>kTT.toD (ks.getD i ([],[]))) (λi τ=>(ks.take i).find? (λp=>decide (vD R p < t))=none/\∃ s3,τ=[.d (tbQ M),.d (.int t),.d (.box (bxW kTT iu P w (fdM R (kys m n (min m n))))),s3]) b nd (em ▸ qB (aa 2)) (bN (f:=kTT.toD) (xs:=ks) ([],[])) ⟨rfl,.un,rfl⟩ (λi hi τ h=>?_) λτ h=>?_
 · obtain ⟨h0,s3,rfl⟩:=h
   have hi:i < ks.length:=by simpa using hi
   have mi:ks.getD i ([],[]) ∈ ks:=a7 hi
   have g:=hall _ mi
   have es:ks.take (i + 1)=ks.take i++[ks.getD i ([],[])]:=take_snoc _ hi
   generalize hp:ks.getD i ([],[])=p at g es
   refine b9 (aU (uw (a:=kTT) (hd:=iu) (key:=p) hu (aa 2) (aa 3) g (lZ _) jy) (aa 1) jU) (λh=>?_) λh=>?_
   · have e:ks.find? (λp=>decide (vD R p < t))=some p:=by
       have e1:ks=ks.take i++p :: ks.drop (i + 1):=by
         have:=List.take_append_drop (i + 1) ks
         rw [es,List.append_assoc] at this
         exact this.symm
       rw [e1,List.find?_append,h0,List.find?_cons,h]
       rfl
     rw [e]
     exact aH (bO (ab (aR (km b (ab (aP (aa 3) ae (a6 rfl)) af) mL)) (ab (aR (km b (ab (aP (aa 3) ae (a6 rfl)) af) mL)) af))) rfl
   · refine aO ⟨?_,_,rfl⟩
     rw [es,List.find?_append,h0,List.find?_cons,h]
     rfl
 · obtain ⟨h0,s3,rfl⟩:=h
   rw [List.length_map,List.take_of_length_le (Nat.le_refl _)] at h0
   rw [h0]
   exact aH rM rfl
theorem i9 (F:Fun K "is_strict" qual (top 28) f fd) (hb:∀ x ∈ ao,mg x=none) (c_look_table:Cal P w K mg base k "look_table" bx) (c_first_under:Cal P w K mg base k "first_under" cx):aN P w K mg base CX0 (k + 1) f fd ["table"] (spD K dD):=by
 refine fnD F je hb (by rintro _ _ ⟨_,_,_,_,_,rfl,_⟩; rfl) ?_
 rintro _ _ ⟨m,n,d,v,M,rfl,t,hq,hz,rfl⟩ cdv A outer s H E b
 refine ea (x_call b c_look_table (ab (aa 0) af) ⟨m,n,M,rfl,t,rfl⟩) ?_
 exact aH (cc (x_call b c_first_under (ab (aa 0) (ab ae af)) ⟨m,n,d,v,M,1,rfl,t,hq,hz,rfl⟩) rM uz) rfl
end
noncomputable def lnR (R:List (List Int)) (ls:List Int):List (List Int):=ls.map λi=>R.getD i.toNat []
section
variable {P:Program} {w:World} {K:PySem.W.Frag} {mg:Str->Option Value} {base:Heap} {k:Nat} {f:Addr} {fd:FuncData} {qual:Str}
end
section
variable {P:Program} {w:World} {K:PySem.W.Frag} {mg:Str->Option Value} {base:Heap} {k:Nat} {f:Addr} {fd:FuncData} {qual:Str}
end
theorem mQ {f:List Int->Int} {row c:List Int} {g:Nat->Rat} {m:Nat} (hl:c.length=m + 1) (hg:∀ k,k < m + 1->((alP f row c k:Int):Rat)=g k):∀ k,k<=m + 1->((alS f row c k:Int):Rat)=ax (λk=>sgn (m - k) * g k) k
 | 0,_=>rfl
 | k + 1,h=>by
   have ih:=mQ hl hg k (by omega)
   rw [alS,ax,<- ih,<- hg k (by omega),hl]
   unfold sgn
   rw [Int.fmod_eq_emod_of_nonneg _ (by decide)]
   by_cases z:(m - k) % 2=0
   · rw [if_pos z,if_neg (by omega),Rat.intCast_add,Rat.one_mul]
   · rw [if_neg z,if_pos (by omega),Rat.intCast_sub,Rat.sub_eq_add_neg,Rat.neg_mul,Rat.one_mul]
theorem kR {M M':Nat->Nat->Rat} {L:List Nat} (h:∀ r,r < L.length->∀ j,M r j=M' r j):fh M L=fh M' L:=by
 unfold fh
 exact aj λr hr q _=>h r hr _
theorem qd (R:List (List Int)) (ls:List Int) (t r j:Nat) (h:r < t):dtM (lnR R (ls.take t)) r j=dtM (lnR R ls) r j:=by
 have e:(lnR R (ls.take t)).getD r []=(lnR R ls).getD r []:=by
   unfold lnR
   rw [List.map_take,List.getD_eq_getElem?_getD,List.getD_eq_getElem?_getD,List.getElem?_take_of_lt h]
 unfold dtM
 rw [e]
theorem mV (c:List Int) (k:Nat):(ers c k).map Int.toNat=(c.map Int.toNat).eraseIdx k:=by
 unfold ers
 rw [List.eraseIdx_eq_take_drop_succ,List.map_append,List.map_take,List.map_drop]
theorem lW (R:List (List Int)):∀ (t:Nat) (ls c:List Int),ls.length=t->c.length=t->((dtm R t ls c:Int):Rat)=fh (dtM (lnR R ls)) (c.map Int.toNat)
 | 0,ls,c,_,hc=>by
   cases List.length_eq_zero_iff.mp hc
   rfl
 | t + 1,ls,c,hl,hc=>by
   have hL:(c.map Int.toNat).length=t + 1:=by rw [List.length_map,hc]
   rw [kW hL,dtm]
   unfold alR
   rw [hc]
   have:=mQ (f:=dtm R t (ls.take t)) (row:=R.getD (dR ls).toNat []) (c:=c) (g:=λk=>dtM (lnR R ls) t ((c.map Int.toNat).getD k 0) * fh (dtM (lnR R ls)) ((c.map Int.toNat).eraseIdx k)) hc (λk hk=>by
     unfold alP
     have e1:(c.map Int.toNat).getD k 0=(c.getD k 0).toNat:=by simp [show k < c.length by omega]
     have e2:(lnR R ls).getD t []=R.getD (dR ls).toNat []:=by
       unfold lnR dR
       rw [hl]
       simp [show t < ls.length by omega]
     have l2:(ers c k).length=t:=by
       have:=congrArg List.length (mV c k)
       rw [List.length_map,List.length_eraseIdx_of_lt (by omega),hL] at this
       exact this
     rw [Rat.intCast_mul,lW R t (ls.take t) (ers c k) (by rw [List.length_take,hl]; omega) l2,mV]
     rw [e1]
     have e3:dtM (lnR R ls) t (c.getD k 0).toNat=(((R.getD (dR ls).toNat []).getD (c.getD k 0).toNat 0:Int):Rat):=by unfold dtM; rw [e2]
     rw [e3]
     refine congrArg _ (kR λr hr j=>qd R ls t r j ?_)
     rw [List.length_eraseIdx_of_lt (by omega),hL] at hr
     omega) (t + 1) (Nat.le_refl _)
   rw [this]
   refine av λk hk=>?_
   rw [Rat.mul_assoc]
section
variable {P:Program} {w:World} {K:PySem.W.Frag} {mg:Str->Option Value} {base:Heap} {k:Nat} {f:Addr} {fd:FuncData} {qual:Str}
end
theorem mB {m n k:Nat} {ls c:List Int}:(ls,c) ∈ kys m n k ↔ ∃ s,s < k/\ls ∈ chs m (s + 1)/\c ∈ chs n (s + 1):=by
 unfold kys ky1
 constructor
 · intro h
   obtain ⟨s,hs,h⟩:=List.mem_flatMap.mp h
   obtain ⟨l,hl,h⟩:=List.mem_flatMap.mp h
   obtain ⟨d,hd,e⟩:=List.mem_map.mp h
   cases e
   exact ⟨s,List.mem_range.mp hs,hl,hd⟩
 · rintro ⟨s,hs,h1,h2⟩
   exact List.mem_flatMap.mpr ⟨s,List.mem_range.mpr hs,List.mem_flatMap.mpr ⟨ls,h1,List.mem_map.mpr ⟨c,h2,rfl⟩⟩⟩
section
variable {P:Program} {w:World} {K:PySem.W.Frag} {mg:Str->Option Value} {base:Heap} {k:Nat} {f:Addr} {fd:FuncData} {qual:Str}
end
theorem vP:∀ n,n < 8->∀ t,t < 8->((chs n t).all λc=>(List.range (t - 1)).all λi=>decide (c.getD i 0 < c.getD (i + 1) 0))=true:=by decide +kernel
theorem oS:∀ n,n < 8->∀ t,t < 8->((List.range 8).all λa=>decide (n < a + t) || (chs n t).contains ((List.range t).map λi=>((a + i:Nat):Int)))=true:=by decide +kernel
theorem sa {R:List (List Int)} {ls c:List Int} {t:Nat} (hl:ls.length=t) (hc:c.length=t):((vD R (ls,c):Int):Rat)=mi (dtM R) t (λr=>(ls.getD r 0).toNat) (λj=>(c.getD j 0).toNat):=by
 unfold vD
 show ((dtm R ls.length ls c:Int):Rat)=_
 rw [lW R ls.length ls c rfl (by omega)]
 unfold fh mi
 rw [List.length_map,hc]
 refine aj λi hi j hj=>?_
 unfold dtM lnR
 have e1:(ls.map λi=>R.getD i.toNat []).getD i []=R.getD (ls.getD i 0).toNat []:=by simp [show i < ls.length by omega]
 have e2:(c.map Int.toNat).getD j 0=(c.getD j 0).toNat:=by simp [show j < c.length by omega]
 rw [e1,e2]
theorem mX {n t:Nat} (hn:n<=7) (ht:t<=7) {c:List Int} (h:c ∈ chs n t):Inc t λi=>(c.getD i 0).toNat:=λi hi=>by
 have u:=List.all_eq_true.mp (List.all_eq_true.mp (vP n (by omega) t (by omega)) c h) i (List.mem_range.mpr (by omega))
 have u:=of_decide_eq_true u
 have:=((bQ n t c h).at_ i (by omega)).1
 show (c.getD i 0).toNat < (c.getD (i + 1) 0).toNat
 omega
theorem gA {R:List (List Int)} {m n b:Nat} (ok:Rw m n b R):(∀ p ∈ kys m n (min m n),1<=vD R p) ↔ ∀ k a b',1<=k->a + k<=m->b' + k<=n->(a=0\/b'=0)->0 < sld (dtM R) a b' k:=by
 have m7:=ok.m1.2
 have n7:=ok.n1.2
 constructor
 · intro h k a b' hk ha hb _
   have s1:=List.all_eq_true.mp (oS m (by omega) k (by omega)) a (List.mem_range.mpr (by omega))
   have s2:=List.all_eq_true.mp (oS n (by omega) k (by omega)) b' (List.mem_range.mpr (by omega))
   rw [decide_eq_false (by omega),Bool.false_or] at s1 s2
   have c1:(List.range k).map (λi=>((a + i:Nat):Int)) ∈ chs m k:=by simpa using s1
   have c2:(List.range k).map (λi=>((b' + i:Nat):Int)) ∈ chs n k:=by simpa using s2
   have hv:=h _ (mB.mpr ⟨k - 1,by omega,by rw [show k - 1 + 1=k by omega]; exact c1,by rw [show k - 1 + 1=k by omega]; exact c2⟩)
   have e:=sa (R:=R) (t:=k) (bQ m _ _ c1).len (bQ n _ _ c2).len
   have e2:sld (dtM R) a b' k=((vD R ((List.range k).map (λi=>((a + i:Nat):Int)),(List.range k).map (λi=>((b' + i:Nat):Int))):Int):Rat):=by
     rw [e]
     unfold sld
     refine j3 (λi hi=>?_) λi hi=>?_ <;> (simp [hi]; omega)
   rw [e2]
   exact (show ((0:Int):Rat) < _ from Rat.intCast_lt_intCast.mpr (by omega))
 · rintro h ⟨ls,c⟩ hp
   obtain ⟨s,hs,h1,h2⟩:=mB.mp hp
   have o1:=bQ m _ ls h1
   have o2:=bQ n _ c h2
   have e:=sa (R:=R) (t:=s + 1) o1.len o2.len
   have g1:=o1.at_ s (by omega)
   have g2:=o2.at_ s (by omega)
   have:=tp (M:=dtM R) (n:=m) (m:=n) h (k:=s + 1) (mX (by omega) (by omega) h1) (mX (by omega) (by omega) h2) (λ_=>by show (ls.getD s 0).toNat < m; omega) (λ_=>by show (c.getD s 0).toNat < n; omega)
   rw [<- e] at this
   have:=Rat.intCast_lt_intCast.mp (show ((0:Int):Rat) < _ from this)
   omega
section
variable {P:Program} {w:World} {K:PySem.W.Frag} {mg:Str->Option Value} {base:Heap} {k:Nat} {f:Addr} {fd:FuncData} {qual:Str}
end
noncomputable abbrev Col:=(Nat->Rat) × Rat
noncomputable def bG:Col:=(λ_=>0,0)
noncomputable def ie (ρ:Nat->Nat) (cs:List Col):Rat:=det cs.length λr c=>(cs.getD c bG).1 (ρ r)
noncomputable def Stp (m:Nat) (cs:List Col):Prop:=∀ S,S.Sublist cs->∀ ρ,Inc S.length ρ->(∀ i,i < S.length->ρ i < m)->0 < ie ρ S
noncomputable def bC (cs:List Col) (i:Nat):Rat:=match cs with
 | []=>0
 | c :: cs=>c.1 i * c.2 + bC cs i
theorem Stp.sub {m:Nat} {cs ds:List Col} (h:Stp m cs) (s:ds.Sublist cs):Stp m ds:=λS t=>h S (t.trans s)
noncomputable def sgR (x:Rat):Int:=if x=0 then 0 else if 0 < x then 1 else -1
noncomputable def chg:List Int->Nat
 | []=>0
 | [_]=>0
 | a :: b :: l=>(if a=b then 0 else 1) + chg (b :: l)
noncomputable def nzS (xs:List Rat):List Int:=(xs.map sgR).filter λs=>decide (s ≠ 0)
theorem p7 {x:Rat} (h:x ≠ 0):sgR x ≠ 0:=by
 unfold sgR
 rw [if_neg h]
 split <;> decide
noncomputable def mrg (c h:Col):Col:=(λi=>c.1 i * (if 0 < c.2 then c.2 else -c.2) + h.1 i * (if 0 < c.2 then h.2 else -h.2),if 0 < c.2 then 1 else -1)
theorem jM {x:Rat} (h:x ≠ 0) (s:¬ 0 < x):0 < -x:=by
 have:x<=0:=Rat.not_lt.mp s
 rcases Rat.le_iff_lt_or_eq.mp this with z | z
 · grind
 · exact absurd z h
theorem pN {ρ:Nat->Nat} (S T:List Col) (c h w:Col) (a b:Rat) (e:∀ i,w.1 i=a * c.1 i + b * h.1 i):ie ρ (S++w :: T)=a * ie ρ (S++c :: T) + b * ie ρ (S++h :: T):=by
 have ln:∀ z:Col,(S++z :: T).length=S.length + (T.length + 1):=λz=>by rw [List.length_append]; rfl
 have eq:∀ z:Col,ie ρ (S++z :: T)=det (S.length + (T.length + 1)) (bE (λr c'=>((S++c :: T).getD c' bG).1 (ρ r)) S.length λr=>z.1 (ρ r)):=λz=>by
   unfold ie
   rw [ln]
   refine aj λr _ q _=>?_
   unfold bE
   by_cases k:q=S.length
   · subst k
     rw [if_pos rfl]
     simp
   · rw [if_neg k]
     rcases Nat.lt_or_gt_of_ne k with k | k
     · simp [List.getElem?_append_left k]
     · have:q=S.length + (q - S.length - 1 + 1):=by omega
       rw [this]
       simp [List.getElem?_append_right]
 rw [eq w,eq c,eq h,<- gE _ (q:=S.length) (by omega)]
 refine aj λr _ q _=>?_
 unfold bE
 split
 · exact e (ρ r)
 · rfl
theorem qL {α:Type} {S:List α} {x:α} {T:List α}:∀ {P:List α},S.Sublist (P++x :: T)->S.Sublist (P++T)\/∃ S1 S2,S=S1++x :: S2/\S1.Sublist P/\S2.Sublist T:=λ{P} h=>by
 obtain ⟨A,B,rfl,hA,hB⟩:=List.sublist_append_iff.mp h
 cases hB with
 | cons _ hB=>exact .inl (hA.append hB)
 | @cons_cons l1 _ _ hB=>exact .inr ⟨A,_,rfl,hA,hB⟩
theorem Stp.join {m:Nat} {P T:List Col} {c h:Col} (s:Stp m (P++c :: h :: T)) (hc:c.2 ≠ 0) (hh:h.2 ≠ 0) (e:sgR c.2=sgR h.2):Stp m (P++mrg c h :: T):=by
 intro S hS ρ hi hm
 rcases qL hS with q | ⟨S1,S2,rfl,h1,h2⟩
 · exact s S (q.trans ((List.Sublist.refl P).append (.cons _ (.cons _ (List.Sublist.refl T))))) ρ hi hm
 · have l1:(S1++c :: S2).length=(S1++mrg c h :: S2).length:=by simp
   have l2:(S1++h :: S2).length=(S1++mrg c h :: S2).length:=by simp
   have d1:=s (S1++c :: S2) (h1.append (.cons_cons _ (.cons _ h2))) ρ (l1 ▸ hi) (l1 ▸ hm)
   have d2:=s (S1++h :: S2) (h1.append (.cons _ (.cons_cons _ h2))) ρ (l2 ▸ hi) (l2 ▸ hm)
   rw [pN S1 S2 c h (mrg c h) (if 0 < c.2 then c.2 else -c.2) (if 0 < c.2 then h.2 else -h.2) λi=>by
     show c.1 i * _ + h.1 i * _=_
     rw [Rat.mul_comm (c.1 i),Rat.mul_comm (h.1 i)]]
   unfold sgR at e
   rw [if_neg hc,if_neg hh] at e
   by_cases p:0 < c.2
   · rw [if_pos p] at e
     have q:0 < h.2:=by
       by_cases q:0 < h.2
       · exact q
       · rw [if_neg q] at e; exact absurd e (by decide)
     rw [if_pos p,if_pos p]
     have:=Rat.mul_pos p d1
     have:=Rat.mul_pos q d2
     grind
   · rw [if_neg p] at e
     have q:¬ 0 < h.2:=λq=>by rw [if_pos q] at e; exact absurd e (by decide)
     rw [if_neg p,if_neg p]
     have:=Rat.mul_pos (jM hc p) d1
     have:=Rat.mul_pos (jM hh q) d2
     grind
theorem rl {c h:Col} (hc:c.2 ≠ 0) (i:Nat):(mrg c h).1 i * (mrg c h).2=c.1 i * c.2 + h.1 i * h.2:=by
 unfold mrg
 by_cases p:0 < c.2
 · simp only [if_pos p]
   rw [Rat.mul_one]
 · simp only [if_neg p]
   grind
theorem uu {c h:Col} (hc:c.2 ≠ 0):sgR (mrg c h).2=sgR c.2/\(mrg c h).2 ≠ 0:=by
 unfold mrg sgR
 by_cases p:0 < c.2
 · simp only [if_pos p,if_neg hc]
   exact ⟨by decide,by decide⟩
 · simp only [if_neg p,if_neg hc]
   exact ⟨by decide,by decide⟩
theorem blocks (m:Nat):∀ cs:List Col,∃ ds:List Col,(∀ P,Stp m (P++cs)->Stp m (P++ds))/\(∀ i,bC ds i=bC cs i)/\(∀ d ∈ ds,d.2 ≠ 0)/\(ds=[] ↔ nzS (cs.map (·.2))=[])/\(∀ d t,ds=d :: t->∃ l,nzS (cs.map (·.2))=sgR d.2 :: l)/\(ds ≠ []->ds.length=chg (nzS (cs.map (·.2))) + 1)
 | []=>⟨[],λ_ h=>h,λ_=>rfl,(λ_ h=>nomatch h),⟨λ_=>rfl,λ_=>rfl⟩,(λ_ _ h=>nomatch h),λh=>absurd rfl h⟩
 | c :: cs=>by
   obtain ⟨ds,h1,h2,h3,h4,h5,h6⟩:=blocks m cs
   have pre:∀ P,Stp m (P++c :: cs)->Stp m (P++c :: ds):=λP h=>by
     have:=h1 (P++[c]) (by rw [List.append_assoc]; exact h)
     rw [List.append_assoc] at this
     exact this
   by_cases z:c.2=0
   · have en:nzS ((c :: cs).map (·.2))=nzS (cs.map (·.2)):=by
       unfold nzS
       rw [List.map_cons,List.map_cons,show sgR c.2=0 by unfold sgR; rw [if_pos z]]
       rfl
     refine ⟨ds,λP h=>(pre P h).sub ((List.Sublist.refl P).append (.cons _ (List.Sublist.refl ds))),λi=>?_,h3,by rw [en]; exact h4,λd t e=>by rw [en]; exact h5 d t e,λe=>by rw [en]; exact h6 e⟩
     show _=c.1 i * c.2 + bC cs i
     rw [h2,z,Rat.mul_zero,Rat.zero_add]
   · have en:nzS ((c :: cs).map (·.2))=sgR c.2 :: nzS (cs.map (·.2)):=by
       unfold nzS
       rw [List.map_cons,List.map_cons,List.filter_cons_of_pos (by simpa using p7 z)]
     cases ds with
     | nil=>
       have e0:=h4.mp rfl
       refine ⟨[c],pre,λi=>?_,λd hd=>by rw [List.mem_singleton.mp hd]; exact z,?_,λd t e=>?_,λ_=>by rw [en,e0]; rfl⟩
       · show c.1 i * c.2 + 0=c.1 i * c.2 + bC cs i
         rw [<- h2]
         rfl
       · rw [en]
         exact ⟨(λe=>by cases e),(λe=>by cases e)⟩
       · cases e
         exact ⟨_,en⟩
     | cons d t=>
       obtain ⟨l,el⟩:=h5 d t rfl
       have hd:=h3 d (List.mem_cons_self ..)
       have len:=h6 (by intro e; cases e)
       rw [el] at len
       by_cases s:sgR c.2=sgR d.2
       · obtain ⟨m1,m2⟩:=uu (h:=d) z
         refine ⟨mrg c d :: t,λP h=>(pre P h).join z hd s,λi=>?_,λx hx=>?_,?_,λx y e=>?_,λ_=>?_⟩
         · show (mrg c d).1 i * (mrg c d).2 + bC t i=c.1 i * c.2 + bC cs i
           have:=h2 i
           have e2:bC (d :: t) i=d.1 i * d.2 + bC t i:=rfl
           rw [rl z,<- this,e2,Rat.add_assoc]
         · rcases List.mem_cons.mp hx with q | q
           · rw [q]; exact m2
           · exact h3 x (List.mem_cons_of_mem _ q)
         · rw [en]
           exact ⟨(λe=>by cases e),(λe=>by cases e)⟩
         · cases e
           exact ⟨_,by rw [en,m1]⟩
         · rw [en,el,chg,if_pos s,Nat.zero_add]
           exact len
       · refine ⟨c :: d :: t,pre,λi=>?_,λx hx=>?_,?_,λx y e=>?_,λ_=>?_⟩
         · show c.1 i * c.2 + bC (d :: t) i=_
           rw [h2]
           rfl
         · rcases List.mem_cons.mp hx with q | q
           · rw [q]; exact z
           · exact h3 x q
         · rw [en]
           exact ⟨(λe=>by cases e),(λe=>by cases e)⟩
         · cases e
           exact ⟨_,en⟩
         · rw [en,el,chg,if_neg s]
           show (d :: t).length + 1=_
           rw [len]
           omega
structure Chn (m p:Nat) (y:Nat->Rat) (σ:Rat) (ρ:Nat->Nat):Prop where
 inc:Inc (p + 1) ρ
 lt:∀ k,k<=p->ρ k < m
 sg:∀ k,k<=p->0<=σ * sgn (p + k) * y (ρ k)
theorem kq {f:Nat->Rat}:∀ n,(∀ i < n,0<=f i)->ax f n=0->∀ i < n,f i=0
 | 0,_,_,i,h=>absurd h (Nat.not_lt_zero i)
 | n + 1,h,e,i,hi=>by
   rw [ax] at e
   have a:∀ m,m<=n->0<=ax f m:=λm hm=>by
     induction m with
     | zero=>exact Rat.le_refl
     | succ m ih=>rw [ax]; exact Rat.add_nonneg (ih (by omega)) (h m (by omega))
   have b:=a n (Nat.le_refl n)
   have c:=h n (by omega)
   have e1:ax f n=0:=by grind
   have e2:f n=0:=by grind
   by_cases q:i=n
   · rw [q]; exact e2
   · exact kq n (λi hi=>h i (by omega)) e1 i (by omega)
theorem gX (cs:List Col) (i:Nat):bC cs i=ax (λc=>(cs.getD c bG).2 * (cs.getD c bG).1 i) cs.length:=by
 induction cs with
 | nil=>rfl
 | cons c cs ih=>
   rw [List.length_cons,gx]
   show c.1 i * c.2 + bC cs i=c.2 * c.1 i + _
   rw [ih,Rat.mul_comm]
   rfl
theorem oK (ρ:Nat->Nat) (cs:List Col):ie ρ cs=det cs.length λc r=>(cs.getD c bG).1 (ρ r):=by
 unfold ie
 exact (dh cs.length λr c=>(cs.getD c bG).1 (ρ r)).symm
theorem q0 {n:Nat} {ρ:Nat->Nat} (h:Inc (n + 1) ρ) (c:Nat):Inc n λq=>ρ (skp c q):=λi hi=>by
 show ρ (skp c i) < ρ (skp c (i + 1))
 unfold skp
 by_cases q:i + 1 < c
 · rw [if_pos q,if_pos (by omega)]; exact h i (by omega)
 · by_cases q2:i < c
   · rw [if_pos q2,if_neg q]
     exact h.mono (by omega) (by omega)
   · rw [if_neg q2,if_neg q]; exact h (i + 1) (by omega)
theorem ju (a b:Nat):sgn (a + b)=sgn a * sgn b:=by
 unfold sgn
 by_cases h1:a % 2=0 <;> by_cases h2:b % 2=0
 · rw [if_pos h1,if_pos h2,if_pos (by omega)]; grind
 · rw [if_pos h1,if_neg h2,if_neg (by omega)]; grind
 · rw [if_neg h1,if_pos h2,if_neg (by omega)]; grind
 · rw [if_neg h1,if_neg h2,if_pos (by omega)]; grind
theorem few {m p:Nat} {cs:List Col} {σ:Rat} {ρ:Nat->Nat} (s:Stp m cs) (hn:cs ≠ []) (hx:∀ d ∈ cs,d.2 ≠ 0) (hσ:σ=1\/σ=-1) (ch:Chn m p (bC cs) σ ρ):p + 1<=cs.length:=by
 by_cases hp:p + 1<=cs.length
 · exact hp
 · exfalso
   have L1:1<=cs.length:=by cases cs with
     | nil=>exact absurd rfl hn
     | cons _ _=>exact Nat.succ_le_succ (Nat.zero_le _)
   have iL:Inc (cs.length + 1) ρ:=ch.inc.le (by omega)
   have z:det (cs.length + 1) (ak (λc r=>(cs.getD c bG).1 (ρ r)) cs.length λr=>bC cs (ρ r))=0:=by
     have e:=(cP (cs.length + 1)).comb (λc r=>(cs.getD c bG).1 (ρ r)) (p:=cs.length) (k:=cs.length) (by omega) (Nat.le_refl _) 0 λc=>(cs.getD c bG).2
     rw [Rat.zero_mul] at e
     rw [<- e]
     congr 1
     congr 1
     funext r
     rw [gX,Rat.zero_mul,Rat.zero_add]
   rw [kB] at z
   have hD:∀ c,c < cs.length + 1->0 < det cs.length λr q=>(cs.getD r bG).1 (ρ (skp c q)):=λc hc=>by
     have:=s cs (List.Sublist.refl cs) (λq=>ρ (skp c q)) (q0 iL c) λi hi=>ch.lt _ (by have:=jO (i:=c) hi; omega)
     rw [oK] at this
     exact this
   have z2:ax (λc=>σ * sgn (p + c) * bC cs (ρ c) * det cs.length λr q=>(cs.getD r bG).1 (ρ (skp c q))) (cs.length + 1)=0:=by
     have:ax (λc=>σ * sgn (p + c) * bC cs (ρ c) * det cs.length λr q=>(cs.getD r bG).1 (ρ (skp c q))) (cs.length + 1)=σ * (sgn p * sgn cs.length) * ax (λc=>sgn (cs.length + c) * ak (λc r=>(cs.getD c bG).1 (ρ r)) cs.length (λr=>bC cs (ρ r)) cs.length c * det cs.length λr q=>ak (λc r=>(cs.getD c bG).1 (ρ r)) cs.length (λr=>bC cs (ρ r)) r (skp c q)) (cs.length + 1):=by
       rw [a4]
       refine av λc _=>?_
       have e1:ak (λc r=>(cs.getD c bG).1 (ρ r)) cs.length (λr=>bC cs (ρ r)) cs.length c=bC cs (ρ c):=by rw [bb]
       have e2:det cs.length (λr q=>ak (λc r=>(cs.getD c bG).1 (ρ r)) cs.length (λr=>bC cs (ρ r)) r (skp c q))=det cs.length λr q=>(cs.getD r bG).1 (ρ (skp c q)):=aj λr hr q _=>by rw [a9 (by omega)]
       rw [e1,e2]
       have e3:=ju
       have e4:=dB cs.length
       rw [e3 p c,e3 cs.length c]
       grind
     rw [this,z,Rat.mul_zero]
   have z3:=kq _ (λc hc=>Rat.mul_nonneg (ch.sg c (by omega)) (Rat.le_of_lt (hD c hc))) z2
   have y0:∀ c,c < cs.length + 1->bC cs (ρ c)=0:=λc hc=>by
     have h1:=z3 c hc
     rcases Rat.mul_eq_zero.mp h1 with q | q
     · have sn:σ * sgn (p + c) ≠ 0:=by
         have:=dB (p + c)
         rcases hσ with rfl | rfl <;> grind
       rcases Rat.mul_eq_zero.mp q with q | q
       · exact absurd q sn
       · exact q
     · have:=hD c hc
       rw [q] at this
       exact absurd this Rat.lt_irrefl
   have d0:=s cs (List.Sublist.refl cs) ρ (iL.le (by omega)) λi hi=>ch.lt i (by omega)
   rw [oK] at d0
   have e:=(cP cs.length).comb (λc r=>(cs.getD c bG).1 (ρ r)) (p:=cs.length - 1) (k:=cs.length - 1) (by omega) (Nat.le_refl _) (cs.getD (cs.length - 1) bG).2 λc=>(cs.getD c bG).2
   have e2:det cs.length (ak (λc r=>(cs.getD c bG).1 (ρ r)) (cs.length - 1) λr=>(cs.getD (cs.length - 1) bG).2 * (cs.getD (cs.length - 1) bG).1 (ρ r) + ax (λc=>(cs.getD c bG).2 * (cs.getD c bG).1 (ρ r)) (cs.length - 1))=0:=by
     rw [<- (cP cs.length).vI (λc r=>(cs.getD c bG).1 (ρ r)) (p:=cs.length - 1) (by omega)]
     refine aj λr _ q hq=>?_
     unfold ak
     split
     · have:=y0 q (by omega)
       rw [gX] at this
       rw [<- this]
       obtain ⟨l,hl⟩:∃ l,cs.length=l + 1:=⟨cs.length - 1,by omega⟩
       rw [hl,Nat.add_sub_cancel,ax,Rat.add_comm]
     · rfl
   rw [e2] at e
   have xl:(cs.getD (cs.length - 1) bG).2 ≠ 0:=hx _ (by
     have:cs.length - 1 < cs.length:=by omega
     simp [this])
   rcases Rat.mul_eq_zero.mp e.symm with q | q
   · exact xl q
   · rw [q] at d0
     exact absurd d0 Rat.lt_irrefl
theorem p9 {m p:Nat} {cs:List Col} {σ:Rat} {ρ:Nat->Nat} (s:Stp m cs) (hn:nzS (cs.map (·.2)) ≠ []) (hσ:σ=1\/σ=-1) (ch:Chn m p (bC cs) σ ρ):p<=chg (nzS (cs.map (·.2))):=by
 obtain ⟨ds,h1,h2,h3,h4,_,h6⟩:=blocks m cs
 have dn:ds ≠ []:=λe=>hn (h4.mp e)
 have sd:Stp m ds:=h1 [] s
 have:=few sd dn h3 hσ ⟨ch.inc,ch.lt,λk hk=>by rw [h2]; exact ch.sg k hk⟩
 have:=h6 dn
 omega
noncomputable def mcS (s:Nat->Int):Nat->Nat × Int
 | 0=>(0,0)
 | k + 1=>(if 0 < k/\((mcS s k).2=0\/(if s k ≠ 0 then s k else -(mcS s k).2) ≠ (mcS s k).2) then (mcS s k).1 + 1 else (mcS s k).1,if s k ≠ 0 then s k else -(mcS s k).2)
theorem lG (x:Rat):sgR x=0/\x=0\/sgR x=1/\0 < x\/sgR x=-1/\x < 0:=by
 unfold sgR
 by_cases h:x=0
 · rw [if_pos h]; exact .inl ⟨rfl,h⟩
 · rw [if_neg h]
   by_cases p:0 < x
   · rw [if_pos p]; exact .inr (.inl ⟨rfl,p⟩)
   · rw [if_neg p]
     refine .inr (.inr ⟨rfl,?_⟩)
     have:=jM h p
     grind
theorem pI (y:Nat->Rat):∀ n,((mcS (λk=>sgR (y k)) (n + 1)).2=0/\(mcS (λk=>sgR (y k)) (n + 1)).1=n/\∀ k,k<=n->y k=0)\/((mcS (λk=>sgR (y k)) (n + 1)).2=1\/(mcS (λk=>sgR (y k)) (n + 1)).2=-1)/\∃ ρ,Chn (n + 1) (mcS (λk=>sgR (y k)) (n + 1)).1 y (((mcS (λk=>sgR (y k)) (n + 1)).2:Int):Rat) ρ
 | 0=>by
   have e1:(mcS (λk=>sgR (y k)) 1).1=0:=by simp [mcS]
   have e2:(mcS (λk=>sgR (y k)) 1).2=sgR (y 0):=by
     show (if sgR (y 0) ≠ 0 then sgR (y 0) else -0)=_
     split <;> omega
   rw [e1,e2]
   have one:∀ τ:Rat,0<=τ * y 0->Chn 1 0 y τ λ_=>0:=λτ h=>⟨λi hi=>absurd hi (by omega),λk _=>Nat.one_pos,λk hk=>by
     rw [show k=0 by omega]
     have:sgn (0 + 0)=1:=rfl
     rw [this,Rat.mul_one]
     exact h⟩
   rcases lG (y 0) with ⟨h1,h2⟩ | ⟨h1,h2⟩ | ⟨h1,h2⟩
   · exact .inl ⟨h1,rfl,λk hk=>by rw [show k=0 by omega]; exact h2⟩
   · refine .inr ⟨.inl h1,_,one _ ?_⟩
     rw [h1]
     have:((1:Int):Rat)=1:=rfl
     rw [this]
     grind
   · refine .inr ⟨.inr h1,_,one _ ?_⟩
     rw [h1]
     have:((-1:Int):Rat)=-1:=rfl
     rw [this]
     grind
 | n + 1=>by
   have e1:(mcS (λk=>sgR (y k)) (n + 1 + 1)).1=if (mcS (λk=>sgR (y k)) (n + 1)).2=0\/(if sgR (y (n + 1)) ≠ 0 then sgR (y (n + 1)) else -(mcS (λk=>sgR (y k)) (n + 1)).2) ≠ (mcS (λk=>sgR (y k)) (n + 1)).2 then (mcS (λk=>sgR (y k)) (n + 1)).1 + 1 else (mcS (λk=>sgR (y k)) (n + 1)).1:=by
     rw [mcS]
     by_cases q:(mcS (λk=>sgR (y k)) (n + 1)).2=0\/(if sgR (y (n + 1)) ≠ 0 then sgR (y (n + 1)) else -(mcS (λk=>sgR (y k)) (n + 1)).2) ≠ (mcS (λk=>sgR (y k)) (n + 1)).2
     · exact (if_pos ⟨by omega,q⟩).trans (if_pos q).symm
     · exact (if_neg λz=>q z.2).trans (if_neg q).symm
   have e2:(mcS (λk=>sgR (y k)) (n + 1 + 1)).2=if sgR (y (n + 1)) ≠ 0 then sgR (y (n + 1)) else -(mcS (λk=>sgR (y k)) (n + 1)).2:=rfl
   have ih:=pI y n
   rw [e1,e2]
   generalize mcS (λk=>sgR (y k)) (n + 1)=st at ih ⊢
   obtain ⟨c,l⟩:=st
   simp only at ih ⊢
   have tv:∀ t:Int,t=(if sgR (y (n + 1)) ≠ 0 then sgR (y (n + 1)) else -l)->(l=1\/l=-1\/l=0)->((t=1\/t=-1\/(t=0/\l=0/\y (n + 1)=0))/\0<=((t:Int):Rat) * y (n + 1)):=λt ht hl=>by
     have i1:((1:Int):Rat)=1:=rfl
     have i2:((-1:Int):Rat)=-1:=rfl
     rcases lG (y (n + 1)) with ⟨h1,h2⟩ | ⟨h1,h2⟩ | ⟨h1,h2⟩
     · rw [h1,if_neg (by decide)] at ht
       refine ⟨?_,by rw [h2,Rat.mul_zero]; exact Rat.le_refl⟩
       rcases hl with q | q | q
       · right; left; omega
       · left; omega
       · right; right; exact ⟨by omega,q,h2⟩
     · rw [h1,if_pos (by decide)] at ht
       exact ⟨.inl ht,by rw [ht,i1]; grind⟩
     · rw [h1,if_pos (by decide)] at ht
       exact ⟨.inr (.inl ht),by rw [ht,i2]; grind⟩
   generalize ht:(if sgR (y (n + 1)) ≠ 0 then sgR (y (n + 1)) else -l)=t
   rcases ih with ⟨l0,c0,y0⟩ | ⟨l1,ρ,ch⟩
   · obtain ⟨t1,t2⟩:=tv t ht.symm (.inr (.inr l0))
     rw [if_pos (.inl l0),c0]
     have all:∀ τ:Rat,0<=τ * y (n + 1)->Chn (n + 1 + 1) (n + 1) y τ λk=>k:=λτ h=>⟨λi hi=>Nat.lt_succ_self i,λk hk=>by omega,λk hk=>by
       by_cases q:k=n + 1
       · rw [q,ju,dB,Rat.mul_one]
         exact h
       · rw [y0 k (by omega),Rat.mul_zero]
         exact Rat.le_refl⟩
     rcases t1 with t1 | t1 | ⟨t1,_,t3⟩
     · exact .inr ⟨.inl t1,_,all _ t2⟩
     · exact .inr ⟨.inr t1,_,all _ t2⟩
     · refine .inl ⟨t1,rfl,λk hk=>?_⟩
       by_cases q:k=n + 1
       · rw [q]; exact t3
       · exact y0 k (by omega)
   · obtain ⟨t1,t2⟩:=tv t ht.symm (by omega)
     have t1:t=1\/t=-1:=by rcases t1 with q | q | ⟨_,q,_⟩ <;> omega
     refine .inr ⟨t1,?_⟩
     by_cases q:t=l
     · rw [if_neg (by omega),q]
       exact ⟨ρ,ch.inc,λk hk=>Nat.lt_succ_of_lt (ch.lt k hk),ch.sg⟩
     · rw [if_pos (.inr q)]
       have tl:((t:Int):Rat)=-((l:Int):Rat):=by rw [show t=-l by omega,Rat.intCast_neg]
       refine ⟨λk=>if k<=c then ρ k else n + 1,λi hi=>?_,λk hk=>?_,λk hk=>?_⟩
       · show (if i<=c then ρ i else n + 1) < if i + 1<=c then ρ (i + 1) else n + 1
         rw [if_pos (by omega)]
         by_cases r:i + 1<=c
         · rw [if_pos r]; exact ch.inc i (by omega)
         · rw [if_neg r]; exact ch.lt i (by omega)
       · show (if k<=c then ρ k else n + 1) < n + 1 + 1
         split
         · rename_i r; exact Nat.lt_succ_of_lt (ch.lt k r)
         · omega
       · show 0<=_ * _ * y (if k<=c then ρ k else n + 1)
         by_cases r:k<=c
         · rw [if_pos r]
           have:=ch.sg k r
           rw [tl,show c + 1 + k=(c + k) + 1 by omega,cI]
           grind
         · rw [if_neg r,show k=c + 1 by omega,ju,dB,Rat.mul_one]
           exact t2
theorem qU {m:Nat} {cs:List Col} (s:Stp m cs) (hm:1<=m) (hn:nzS (cs.map (·.2)) ≠ []):(mcS (λk=>sgR (bC cs k)) m).1<=chg (nzS (cs.map (·.2))):=by
 obtain ⟨n,rfl⟩:∃ n,m=n + 1:=⟨m - 1,by omega⟩
 rcases pI (bC cs) n with ⟨_,h2,h3⟩ | ⟨h1,ρ,ch⟩
 · rw [h2]
   exact p9 (σ:=1) (ρ:=λk=>k) s hn (.inl rfl) ⟨λi _=>Nat.lt_succ_self i,λk hk=>by omega,λk hk=>by rw [h3 k hk,Rat.mul_zero]; exact Rat.le_refl⟩
 · refine p9 s hn ?_ ch
   rcases h1 with q | q
   · left; rw [q]; rfl
   · right; rw [q]; rfl
theorem vF (k:Nat) (M:Nat->Nat->Rat) (h:M 0 0 ≠ 0):det (1 + k) M=M 0 0 * det k λr c=>M (1 + r) (1 + c) - M (1 + r) 0 / M 0 0 * M 0 (1 + c):=by
 have e:=gC (n:=1 + k) (k:=1) 1 (λi _=>-(M i 0 / M 0 0)) M k (Nat.le_refl _)
 have one:∀ t:Nat,(1:Rat) ^ t=1:=λt=>by
   induction t with
   | zero=>exact Rat.pow_zero _
   | succ t ih=>rw [Rat.pow_succ,ih,Rat.mul_one]
 rw [one,Rat.one_mul] at e
 rw [<- e,cG k 1 _ λi h1 h2 j hj=>?_,eI]
 · congr 1
   refine aj λr hr c hc=>?_
   · show (if 1<=1 + r/\1 + r < 1 + k then 1 * M (1 + r) (1 + c) + ax (λa=>-(M (1 + r) 0 / M 0 0) * M a (1 + c)) 1 else M (1 + r) (1 + c))=_
     rw [if_pos (by omega)]
     show 1 * M (1 + r) (1 + c) + (0 + -(M (1 + r) 0 / M 0 0) * M 0 (1 + c))=_
     grind
 · show (if 1<=i/\i < 1 + k then 1 * M i j + ax (λa=>-(M i 0 / M 0 0) * M a j) 1 else M i j)=0
   rw [if_pos ⟨h1,h2⟩,show j=0 by omega]
   show 1 * M i 0 + (0 + -(M i 0 / M 0 0) * M 0 0)=0
   have:=Rat.div_mul_cancel (a:=M i 0) h
   grind
theorem lD (n:Nat) (f g:Nat->Rat) (M:Nat->Nat->Rat):det n (λr c=>f r * (g c * M r c))=eW f n * (eW g n * det n M):=by
 have e1:=dN (n:=n) f (λr c=>g c * M r c) n (Nat.le_refl _)
 have e2:=dN (n:=n) g (λc r=>M r c) n (Nat.le_refl _)
 rw [dh n M] at e2
 rw [<- e2,<- dh n λi j=>if i < n then g i * M j i else M j i]
 have e3:det n (λi j=>(λi j=>if i < n then g i * M j i else M j i) j i)=det n λr c=>g c * M r c:=aj λr _ c hc=>if_pos hc
 rw [e3,<- e1]
 exact aj λr hr c _=>(if_pos hr).symm
theorem bt {s:Nat->Rat}:∀ n,(∀ i < n,0 < s i)->0 < eW s n
 | 0,_=>(by decide:(0:Rat) < 1)
 | n + 1,h=>Rat.mul_pos (bt n λi hi=>h i (by omega)) (h n (by omega))
theorem pT:∀ (n:Nat) (M:Nat->Nat->Rat),(∀ i < n,∀ j < i,M i j=0)->(∀ i < n,M i i=1)->det n M=1
 | 0,_,_,_=>rfl
 | n + 1,M,h,d=>by
   rw [cG 1 n M λi h1 h2 j hj=>h i (by omega) j (by omega),pT n M (λi hi=>h i (by omega)) λi hi=>d i (by omega),eI]
   show 1 * M n n=1
   rw [d n (by omega),Rat.one_mul]
theorem geo (a b:Rat):∀ c:Nat,a ^ (c + 1) - b ^ (c + 1)=(a - b) * ax (λl=>a ^ l * b ^ (c - l)) (c + 1)
 | 0=>by
   show a ^ 1 - b ^ 1=(a - b) * (0 + a ^ 0 * b ^ 0)
   grind
 | c + 1=>by
   have ih:=geo a b c
   have e:ax (λl=>a ^ l * b ^ (c + 1 - l)) (c + 1)=b * ax (λl=>a ^ l * b ^ (c - l)) (c + 1):=by
     rw [a4]
     refine av λl hl=>?_
     rw [show c + 1 - l=c - l + 1 by omega,Rat.pow_succ]
     grind
   rw [ax,e,Nat.sub_self,Rat.pow_zero,Rat.pow_succ a (c + 1),Rat.pow_succ b (c + 1)]
   generalize ax (λl=>a ^ l * b ^ (c - l)) (c + 1)=S at ih ⊢
   generalize a ^ (c + 1)=x at ih ⊢
   generalize b ^ (c + 1)=y at ih ⊢
   grind
theorem vdm:∀ (k:Nat) (X:Nat->Rat),(∀ i j,i < j->X i < X j)->0 < det k λr c=>X r ^ c
 | 0,_,_=>(by decide:(0:Rat) < 1)
 | k + 1,X,h=>by
   have ih:=vdm k (λi=>X (1 + i)) λi j hij=>h _ _ (by omega)
   rw [Nat.add_comm k 1,vF k (λr c=>X r ^ c) (by show X 0 ^ 0 ≠ 0; rw [Rat.pow_zero]; decide)]
   have e:det k (λr c=>X (1 + r) ^ (1 + c) - X (1 + r) ^ 0 / X 0 ^ 0 * X 0 ^ (1 + c))=det k λr c=>(X (1 + r) - X 0) * (1 * mulQ k (λr l=>X (1 + r) ^ l) (λl c=>if l<=c then X 0 ^ (c - l) else 0) r c):=aj λr hr c hc=>by
     have g:=geo (X (1 + r)) (X 0) c
     have s:mulQ k (λr l=>X (1 + r) ^ l) (λl c=>if l<=c then X 0 ^ (c - l) else 0) r c=ax (λl=>X (1 + r) ^ l * X 0 ^ (c - l)) (c + 1):=by
       unfold mulQ
       have cut:∀ n,c + 1<=n->ax (λl=>X (1 + r) ^ l * (if l<=c then X 0 ^ (c - l) else 0)) n=ax (λl=>X (1 + r) ^ l * (if l<=c then X 0 ^ (c - l) else 0)) (c + 1):=λn hn=>by
         induction n with
         | zero=>omega
         | succ n ihn=>
           by_cases q:c + 1=n + 1
           · rw [q]
           · rw [ax,ihn (by omega),if_neg (by omega),Rat.mul_zero,Rat.add_zero]
       rw [cut k (by omega)]
       exact av λl hl=>by rw [if_pos (by omega)]
     rw [s,Rat.one_mul,<- g,Rat.pow_zero,Rat.pow_zero,Nat.add_comm 1 c]
     grind
   show 0 < X 0 ^ 0 * det k (λr c=>X (1 + r) ^ (1 + c) - X (1 + r) ^ 0 / X 0 ^ 0 * X 0 ^ (1 + c))
   rw [e,lD k (λr=>X (1 + r) - X 0) (λ_=>1),qF,pT k _ (λi _ j hj=>if_neg (by omega)) (λi _=>by rw [if_pos (Nat.le_refl i),Nat.sub_self,Rat.pow_zero]),Rat.pow_zero,Rat.one_mul,Rat.mul_one]
   refine Rat.mul_pos (bt k λi _=>?_) (Rat.mul_pos (bt k λi _=>(by decide:(0:Rat) < 1)) ih)
   have:=h 0 (1 + i) (by omega)
   grind
theorem p8:∀ (k:Nat) (X Y:Nat->Rat),(∀ i j,i < j->X i < X j)->(∀ i j,i < j->Y i < Y j)->(∀ i j,0 < X i + Y j)->0 < det k λr c=>1 / (X r + Y c)
 | 0,_,_,_,_,_=>(by decide:(0:Rat) < 1)
 | k + 1,X,Y,hX,hY,hp=>by
   have ih:=p8 k (λi=>X (1 + i)) (λi=>Y (1 + i)) (λi j q=>hX _ _ (by omega)) (λi j q=>hY _ _ (by omega)) λi j=>hp _ _
   have ne:∀ i j,X i + Y j ≠ 0:=λi j=>Rat.ne_of_gt (hp i j)
   have pos:∀ i j,0 < 1 / (X i + Y j):=λi j=>by
     rw [Rat.div_def,Rat.one_mul]
     exact Rat.inv_pos.mpr (hp i j)
   rw [Nat.add_comm k 1,vF k (λr c=>1 / (X r + Y c)) (Rat.ne_of_gt (pos 0 0))]
   have e:det k (λr c=>1 / (X (1 + r) + Y (1 + c)) - 1 / (X (1 + r) + Y 0) / (1 / (X 0 + Y 0)) * (1 / (X 0 + Y (1 + c))))=det k λr c=>(X (1 + r) - X 0) * (1 / (X (1 + r) + Y 0)) * ((Y (1 + c) - Y 0) * (1 / (X 0 + Y (1 + c))) * (1 / (X (1 + r) + Y (1 + c)))):=aj λr hr c hc=>by
     have h1:=ne (1 + r) (1 + c)
     have h2:=ne (1 + r) 0
     have h3:=ne 0 0
     have h4:=ne 0 (1 + c)
     generalize X (1 + r)=a at *
     generalize Y (1 + c)=b at *
     generalize X 0=x at *
     generalize Y 0=y at *
     grind
   show 0 < 1 / (X 0 + Y 0) * det k (λr c=>1 / (X (1 + r) + Y (1 + c)) - 1 / (X (1 + r) + Y 0) / (1 / (X 0 + Y 0)) * (1 / (X 0 + Y (1 + c))))
   rw [e,lD k (λr=>(X (1 + r) - X 0) * (1 / (X (1 + r) + Y 0))) (λc=>(Y (1 + c) - Y 0) * (1 / (X 0 + Y (1 + c)))) λr c=>1 / (X (1 + r) + Y (1 + c))]
   refine Rat.mul_pos (pos 0 0) (Rat.mul_pos (bt k λi _=>?_) (Rat.mul_pos (bt k λi _=>?_) ih))
   · have:=hX 0 (1 + i) (by omega)
     exact Rat.mul_pos (by grind) (pos _ _)
   · have:=hY 0 (1 + i) (by omega)
     exact Rat.mul_pos (by grind) (pos _ _)
section
variable {P:Program} {w:World} {K:PySem.W.Frag} {mg:Str->Option Value} {base:Heap} {k:Nat} {f:Addr} {fd:FuncData} {qual:Str}
end
noncomputable def dC (ds:List D) (r:Sl):Prop:=∃ a b:Int,ds=[.int a,.int b]/\r=.d (.int (Int.gcd a b:Int))
noncomputable def eK (ds:List D) (r:Sl):Prop:=∃ (t b:Int) (q:Rat),ds=[.int t,.int b]/\0 < b/\Bd 8999 b/\(t:Rat)=q * (b:Rat)/\r=.d (frD q)
noncomputable def gf (ds:List D) (r:Sl):Prop:=∃ (ns:List Int) (k:Nat),ds=[.lst (ns.map .int),.int k]/\r=.d (.int (ns.getD k 0))
noncomputable def rsZ (c u:Int):Int:=if decide ((10:Int) ^ Int.toNat 18<=lO c)=true then c.fdiv u else c + u
noncomputable def gG (ds:List D) (r:Sl):Prop:=∃ c u:Int,ds=[.int c,.int u]/\0 < u/\u < 2 ^ 60/\r=.d (.int (rsZ c u))
theorem Qs.of {t b:Int} {q:Rat} {d v:Nat} (hb:0 < b) (h:(t:Rat)=q * (b:Rat)) (hd:Bd d b) (hv:t.natAbs<=2 ^ v):Qs d v q:=by
 obtain ⟨e1,e2⟩:=gW hb h
 refine ⟨by rw [e2]; exact hd.ediv _,?_⟩
 have g:=Int.gcd_dvd_left (a:=t) (b:=b)
 have h1:q.num.natAbs<=t.natAbs:=by rw [e1]; exact Int.natAbs_ediv_le_natAbs ..
 exact Nat.le_trans h1 (Nat.le_trans hv (Nat.le_mul_of_pos_right _ q.den_pos))
noncomputable def nmT (kd:Nat) (p:Int):Int:=if kd=1 then p.fmod 5 - 2 else if kd=3 then (p.fdiv 2).fmod (10 ^ 40) * (1 - 2 * p.fmod 2) else if kd=2 then p.fmod 10 else p.fmod 19 - 9
noncomputable def nmB (kd:Nat) (p:Int):Int:=if kd=1 then 1 else if kd=3 then 1 + (p.fdiv (2 * 10 ^ 40)).fmod (10 ^ 40 - 1) else if kd=2 then 1 + (p.fdiv 10).fmod 6 else 1 + (p.fdiv 19).fmod 6
noncomputable def nmQ (kd:Nat) (p:Int):Rat:=if kd=1 then ((p.fmod 5 - 2:Int):Rat) else ((nmT kd p:Int):Rat) / ((nmB kd p:Int):Rat)
noncomputable def kD (kd:Nat):Nat:=if kd=3 then 133 else 3
noncomputable def kV (kd:Nat):Nat:=if kd=3 then 133 else 4
theorem fmn {a b:Int} (h:0 < b):0<=a.fmod b/\a.fmod b < b:=⟨Int.fmod_nonneg_of_pos a h,Int.fmod_lt_of_pos a h⟩
theorem gI {kd:Nat} (p:Int):0 < nmB kd p/\Bd (kD kd) (nmB kd p):=by
 unfold nmB kD
 by_cases h1:kd=1
 · rw [if_pos h1,if_neg (by omega)]; exact ⟨by decide,by unfold Bd; decide⟩
 · rw [if_neg h1]
   by_cases h3:kd=3
   · rw [if_pos h3,if_pos h3]
     have:=fmn (a:=p.fdiv (2 * 10 ^ 40)) (b:=10 ^ 40 - 1) (by decide)
     refine ⟨by omega,?_⟩
     unfold Bd
     have:(10:Int) ^ 40 < 2 ^ 133:=by decide
     have e:((2 ^ 133:Nat):Int)=2 ^ 133:=by decide
     omega
   · rw [if_neg h3,if_neg h3]
     by_cases h2:kd=2
     · rw [if_pos h2]
       have:=fmn (a:=p.fdiv 10) (b:=6) (by decide)
       exact ⟨by omega,by unfold Bd; omega⟩
     · rw [if_neg h2]
       have:=fmn (a:=p.fdiv 19) (b:=6) (by decide)
       exact ⟨by omega,by unfold Bd; omega⟩
theorem o3 {kd:Nat} (p:Int):(nmT kd p).natAbs<=2 ^ kV kd:=by
 unfold nmT kV
 by_cases h1:kd=1
 · rw [if_pos h1,if_neg (by omega)]
   have:=fmn (a:=p) (b:=5) (by decide)
   omega
 · rw [if_neg h1]
   by_cases h3:kd=3
   · rw [if_pos h3,if_pos h3]
     have h4:=fmn (a:=p.fdiv 2) (b:=10 ^ 40) (by decide)
     have h5:=fmn (a:=p) (b:=2) (by decide)
     have:(10:Int) ^ 40 < 2 ^ 133:=by decide
     have e:((2 ^ 133:Nat):Int)=2 ^ 133:=by decide
     rw [Int.natAbs_mul,show (1 - 2 * p.fmod 2).natAbs=1 by omega,Nat.mul_one]
     omega
   · rw [if_neg h3,if_neg h3]
     by_cases h2:kd=2
     · rw [if_pos h2]
       have:=fmn (a:=p) (b:=10) (by decide)
       omega
     · rw [if_neg h2]
       have:=fmn (a:=p) (b:=19) (by decide)
       omega
theorem lQ {kd:Nat} (p:Int):((nmT kd p:Int):Rat)=nmQ kd p * ((nmB kd p:Int):Rat):=by
 unfold nmQ
 by_cases h1:kd=1
 · rw [if_pos h1]
   unfold nmT nmB
   rw [if_pos h1,if_pos h1]
   exact (Rat.mul_one _).symm
 · rw [if_neg h1]
   exact (Rat.div_mul_cancel (kY (gI p).1)).symm
theorem r6 {kd:Nat} (p:Int):Qs (kD kd) (kV kd) (nmQ kd p):=Qs.of (gI p).1 (lQ p) (gI p).2 (o3 p)
noncomputable def d8 (ds:List D) (r:Sl):Prop:=∃ (kd:Nat) (p:Int),ds=[.int (kd:Nat),.int p]/\kd < 4/\r=.d (frD (nmQ kd p))
theorem m40:aF ((2:Int) * 10 ^ 40) (10 ^ 40):=(show Bd 140 ((2:Int) * 10 ^ 40) by unfold Bd; decide).aF (show Bd 140 ((10:Int) ^ 40) by unfold Bd; decide) (by decide) (by decide)
theorem vU:aE ((2:Int) * 10 ^ 40):=(show Bd 140 ((2:Int) * 10 ^ 40) by unfold Bd; decide).aE (by decide) (by decide)
section
variable {P:Program} {w:World} {K:PySem.W.Frag} {mg:Str->Option Value} {base:Heap} {k:Nat} {f:Addr} {fd:FuncData} {qual:Str}
theorem jr (F:Fun K "_law_divisor" qual (top 44) f fd) (hb:∀ x ∈ ao,mg x=none):aN P w K mg base CX0 (k + 1) f fd ["_law_one","_law_other"] (spD K dC):=by
 refine fnD F eZ hb (by rintro _ _ ⟨_,_,rfl,_⟩; rfl) ?_
 rintro _ _ ⟨x,y,rfl,rfl⟩ cdv A outer s H E b
 have nd:=eZ.nd
 refine az 0 nd (a5 b (ab (aa 0) af) iS) (az 1 nd (a5 b (ab (aa 1) af) iS) ?_)
 rw [ff,ff]
 refine ml (λn t τ=>∃ (g:Nat) (s2:Sl),Nat.gcd g n=Int.gcd x y/\t=(decide ((0:Int) < n))/\τ=[.d (.int g),.d (.int n),s2]) b ⟨_,_,_,_,rfl,rfl,rfl⟩ (λn t τ h=>?_) (λn τ h=>?_) λn τ h=>?_
 · obtain ⟨g,s2,_,rfl,rfl⟩:=h
   exact aU (aa 1) ae ki
 · obtain ⟨g,s2,hg,ht,rfl⟩:=h
   have hl:n ≠ 0:=λz=>by simp [z] at ht
   have e:(g:Int).fmod n=((g % n:Nat):Int):=by rw [Int.fmod_eq_emod_of_nonneg _ (by omega)]; rfl
   refine az 2 nd (aA (aa 0) (aa 1) (cb (by omega))) ?_
   rw [e]
   refine az 0 nd (aa 1) (az 1 nd (aa 2) (aO ⟨g % n,_,Nat.mod_lt g (Nat.pos_of_ne_zero hl),n,_,?_,rfl,rfl⟩))
   rw [<- hg,Nat.gcd_comm n,<- Nat.gcd_rec,Nat.gcd_comm]
 · obtain ⟨g,s2,hg,ht,rfl⟩:=h
   have hl:n=0:=by have:=of_decide_eq_false ht.symm; omega
   refine aH (aa 0) ?_
   rw [<- hg,hl,Nat.gcd_zero_right]
theorem nQ (F:Fun K "_law_made" qual (top 45) f fd) (hb:∀ x ∈ ao,mg x=none) (c_l_divisor:Cal P w K mg base k "_law_divisor" dC):aN P w K mg base CX0 (k + 1) f fd ["_law_top","_law_bottom"] (spD K eK):=by
 refine fnD F iQ hb (by rintro _ _ ⟨_,_,_,rfl,_⟩; rfl) ?_
 rintro _ _ ⟨t,c,q,rfl,h0,h1,hq,rfl⟩ cdv A outer s H E b
 have nd:=iQ.nd
 have dv:aE (Int.gcd t c:Int):=(h1.gcd (by omega)).aE (gg (by omega)) (by decide)
 obtain ⟨e1,e2⟩:=gW h0 hq
 refine az 2 nd (x_call b c_l_divisor (ab (aa 0) (ab (aa 1) af)) ⟨_,_,rfl,rfl⟩) (aH (bO (ab (aA (aa 0) (aa 2) (bF dv)) (ab (aA (aa 1) (aa 2) (bF dv)) af))) ?_)
 rw [cB,cB,<- e1,<- e2]
 rfl
theorem oe (F:Fun K "_law_cell" qual (top 41) f fd) (hb:∀ x ∈ ao,mg x=none):aN P w K mg base CX0 (k + 1) f fd ["_law_script","_law_k"] (spD K gf):=by
 refine fnD F m5 hb (by rintro _ _ ⟨_,_,rfl,_⟩; rfl) ?_
 rintro _ _ ⟨ns,n,rfl,rfl⟩ cdv A outer s H E b
 refine b9 (aU (aa 1) (a5 b (ab (aa 0) af) dX) jU) (λh=>?_) λh=>?_
 · have h:=of_decide_eq_true h
   rw [List.length_map] at h
   exact aH (aP (aa 0) (aa 1) (aW (lP (by omega) (by omega)))) rfl
 · have h:=of_decide_eq_false h
   rw [List.length_map] at h
   refine aH ae ?_
   show Sl.d (.int 0)=_
   rw [getD_none (by omega)]
theorem n8 (F:Fun K "_law_rest" qual (top 43) f fd) (hb:∀ x ∈ ao,mg x=none):aN P w K mg base CX0 (k + 1) f fd ["_law_cell_here","_law_used"] (spD K gG):=by
 refine fnD F nu hb (by rintro _ _ ⟨_,_,rfl,_⟩; rfl) ?_
 rintro _ _ ⟨c,u,rfl,h0,h1,rfl⟩ cdv A outer s H E b
 refine b9 (aU (a5 b (ab (aa 0) af) iS) (aA ae ae (gO ⟨by decide,by decide,by decide⟩)) ub) (λh=>?_) λh=>?_
 · refine aH (aA (aa 0) (aa 1) (bF (mkD (by omega) (by omega)))) ?_
   unfold rsZ
   rw [if_pos (show decide ((10:Int) ^ Int.toNat 18<=lO c)=true from h)]
 · refine aH (aA (aa 0) (aa 1) aT) ?_
   unfold rsZ
   rw [if_neg (λz=>by rw [show decide ((10:Int) ^ Int.toNat 18<=lO c)=false from h] at z; cases z)]
theorem jQ (F:Fun K "_law_number" qual (top 46) f fd) (hb:∀ x ∈ ao,mg x=none) (c_l_made:Cal P w K mg base k "_law_made" eK):aN P w K mg base CX0 (k + 1) f fd ["_law_kind","_law_part"] (spD K d8):=by
 refine fnD F fP hb (by rintro _ _ ⟨_,_,rfl,_⟩; rfl) ?_
 rintro _ _ ⟨kd,p,rfl,h4,rfl⟩ cdv A outer s H E b
 have nd:=fP.nd
 obtain ⟨b0,b1⟩:=gI (kd:=kd) p
 have b2:Bd 8999 (nmB kd p):=b1.mono (by unfold kD; split <;> decide)
 have hm:=lQ (kd:=kd) p
 refine b9 (aU (aa 0) ae dQ) (λh=>?_) λh=>?_
 · have h1:kd=1:=by have:=of_decide_eq_true h; omega
   refine aH (bO (ab (aA (aA (aa 1) ae (cb (by decide))) ae eY) (ab ae af))) ?_
   unfold nmQ
   rw [if_pos h1]
   rfl
 have n1:¬ kd=1:=by have:=of_decide_eq_false h; omega
 refine b9 (aU (aa 0) ae dQ) (λh=>?_) λh=>?_
 · have h3:kd=3:=by have:=of_decide_eq_true h; omega
   have eT:nmT kd p=(p.fdiv 2).fmod (10 ^ 40) * (1 - 2 * p.fmod 2):=by unfold nmT; rw [if_neg n1,if_pos h3]
   have eB:nmB kd p=1 + (p.fdiv (2 * 10 ^ 40)).fmod (10 ^ 40 - 1):=by unfold nmB; rw [if_neg n1,if_pos h3]
   rw [eT] at hm
   rw [eB] at hm b0 b2
   refine az 2 nd (aA (aA (aA (aa 1) ae (bF (mkD (by decide) (by decide)))) (aA ae ae (gO ⟨by decide,by decide,by decide⟩)) (cb (by decide))) (aA ae (aA ae (aA (aa 1) ae (cb (by decide))) (bP (mkL (by decide)))) eY) (bP (mkR ?_))) ?_
   · have:=fmn (a:=p) (b:=2) (by decide); omega
   exact aH (x_call b c_l_made (ab (aa 2) (ab (aA ae (aA (aA (aa 1) (aA ae (aA ae ae (gO ⟨by decide,by decide,by decide⟩)) (bP (mkL (by decide)))) (bF vU)) (aA (aA ae ae (gO ⟨by decide,by decide,by decide⟩)) ae eY) (cb (by decide))) aT) af)) ⟨_,_,nmQ kd p,rfl,b0,b2,hm,rfl⟩) rfl
 have n3:¬ kd=3:=by have:=of_decide_eq_false h; omega
 refine b9 (aU (aa 0) ae dQ) (λh=>?_) λh=>?_
 · have h2:kd=2:=by have:=of_decide_eq_true h; omega
   have eT:nmT kd p=p.fmod 10:=by unfold nmT; rw [if_neg n1,if_neg n3,if_pos h2]
   have eB:nmB kd p=1 + (p.fdiv 10).fmod 6:=by unfold nmB; rw [if_neg n1,if_neg n3,if_pos h2]
   rw [eT] at hm
   rw [eB] at hm b0 b2
   exact aH (x_call b c_l_made (ab (aA (aa 1) ae (cb (by decide))) (ab (aA ae (aA (aA (aa 1) ae (bF (mkD (by decide) (by decide)))) ae (cb (by decide))) aT) af)) ⟨_,_,nmQ kd p,rfl,b0,b2,hm,rfl⟩) rfl
 · have n2:¬ kd=2:=by have:=of_decide_eq_false h; omega
   have eT:nmT kd p=p.fmod 19 - 9:=by unfold nmT; rw [if_neg n1,if_neg n3,if_neg n2]
   have eB:nmB kd p=1 + (p.fdiv 19).fmod 6:=by unfold nmB; rw [if_neg n1,if_neg n3,if_neg n2]
   rw [eT] at hm
   rw [eB] at hm b0 b2
   exact aH (x_call b c_l_made (ab (aA (aA (aa 1) ae (cb (by decide))) ae eY) (ab (aA ae (aA (aA (aa 1) ae (bF (mkD (by decide) (by decide)))) ae (cb (by decide))) aT) af)) ⟨_,_,nmQ kd p,rfl,b0,b2,hm,rfl⟩) rfl
end
noncomputable def szP (c:Int):List Int:=nums c [8,4,4,7,7]
noncomputable def szR (c:Int):Nat:=(1 + (if (szP c).getD 0 0=1 then (szP c).getD 3 0 else (szP c).getD 1 0)).toNat
noncomputable def szC (c:Int):Nat:=(1 + (if (szP c).getD 0 0=1 then (szP c).getD 4 0 else (szP c).getD 2 0)).toNat
theorem dr (c:Int) {i:Nat} (h:i < 5):0<=(szP c).getD i 0/\(szP c).getD i 0 < [8,4,4,7,7].getD i 0:=jg (c:=c) (bs:=[8,4,4,7,7]) (by decide) h
theorem rV (c:Int):1<=szR c/\szR c<=7/\1<=szC c/\szC c<=7:=by
 have h1:=dr c (i:=1) (by decide)
 have h2:=dr c (i:=2) (by decide)
 have h3:=dr c (i:=3) (by decide)
 have h4:=dr c (i:=4) (by decide)
 have e1:([8,4,4,7,7]:List Int).getD 1 0=4:=rfl
 have e2:([8,4,4,7,7]:List Int).getD 2 0=4:=rfl
 have e3:([8,4,4,7,7]:List Int).getD 3 0=7:=rfl
 have e4:([8,4,4,7,7]:List Int).getD 4 0=7:=rfl
 unfold szR szC
 split <;> omega
noncomputable def gk (ds:List D) (r:Sl):Prop:=∃ c:Int,ds=[.int c]/\r=.d (.tup [.int (szR c:Nat),.int (szC c:Nat)])
section
variable {P:Program} {w:World} {K:PySem.W.Frag} {mg:Str->Option Value} {base:Heap} {k:Nat} {f:Addr} {fd:FuncData} {qual:Str}
theorem nG (F:Fun K "_law_size" qual (top 47) f fd) (hb:∀ x ∈ ao,mg x=none) (c_l_numbers:Cal P w K mg base k "_law_numbers" bM):aN P w K mg base CX0 (k + 1) f fd ["_law_cell_here"] (spD K gk):=by
 refine fnD F iU hb (by rintro _ _ ⟨_,rfl,_⟩; rfl) ?_
 rintro _ _ ⟨c,rfl,rfl⟩ cdv A outer s H E b
 have nd:=iU.nd
 refine az 1 nd (aR (x_call b c_l_numbers (ab (aa 0) (ab (aR (bJ (ab ae (ab ae (ab ae (ab ae (ab ae af))))))) af)) ⟨c,[8,4,4,7,7],rfl,by decide,λx hx=>?_,rfl⟩)) ?_
 · have:0 < x/\x < 9:=by
     simp only [List.mem_cons,List.not_mem_nil,or_false] at hx
     omega
   exact qE this.1 (by omega)
 have ln:(szP c).length=5:=hE c _
 have at_:∀ i:Nat,i < 5->atI ((szP c).map D.int) (i:Int)=some (.int ((szP c).getD i 0)):=λi hi=>atR (by rw [ln]; exact hi)
 have h1:=dr c (i:=1) (by decide)
 have h2:=dr c (i:=2) (by decide)
 have h3:=dr c (i:=3) (by decide)
 have h4:=dr c (i:=4) (by decide)
 refine b9 (aU (aP (aa 1) ae (aW (at_ 0 (by decide)))) ae dQ) (λh=>?_) λh=>?_
 · refine aH (bO (ab (aA ae (aP (aa 1) ae (aW (at_ 3 (by decide)))) aT) (ab (aA ae (aP (aa 1) ae (aW (at_ 4 (by decide)))) aT) af))) ?_
   have h:=of_decide_eq_true h
   have e1:((szR c:Nat):Int)=1 + (szP c).getD 3 0:=by unfold szR; rw [if_pos h]; omega
   have e2:((szC c:Nat):Int)=1 + (szP c).getD 4 0:=by unfold szC; rw [if_pos h]; omega
   rw [e1,e2]
 · refine aH (bO (ab (aA ae (aP (aa 1) ae (aW (at_ 1 (by decide)))) aT) (ab (aA ae (aP (aa 1) ae (aW (at_ 2 (by decide)))) aT) af))) ?_
   have h:=of_decide_eq_false h
   have e1:((szR c:Nat):Int)=1 + (szP c).getD 1 0:=by unfold szR; rw [if_neg h]; omega
   have e2:((szC c:Nat):Int)=1 + (szP c).getD 2 0:=by unfold szC; rw [if_neg h]; omega
   rw [e1,e2]
end
theorem lH (q:Rat):q.num > 0 ↔ 0 < q:=by
 have d:(0:Rat) < (((q.den:Nat):Int):Rat):=(show ((0:Int):Rat) < _ from Rat.intCast_lt_intCast.mpr (den_pos q))
 have e:=mn q
 constructor
 · intro h
   refine jA d ?_
   rw [Rat.mul_comm,e]
   exact (show ((0:Int):Rat) < _ from Rat.intCast_lt_intCast.mpr h)
 · intro h
   have:=Rat.mul_pos h d
   rw [e] at this
   exact Rat.intCast_lt_intCast.mp (show ((0:Int):Rat) < _ from this)
theorem mT {α:Type} (t:α->Bool) (xs:List α) (d:α):((List.range xs.length).filter λi=>t (xs.getD i d)).map (λi=>xs.getD i d)=xs.filter t:=by
 induction xs with
 | nil=>rfl
 | cons x xs ih=>
   rw [List.length_cons,List.range_succ_eq_map,List.filter_cons,List.filter_map,List.filter_cons]
   have e:((List.range xs.length).filter ((λi=>t ((x :: xs).getD i d)) ∘ Nat.succ)).map (λi=>(x :: xs).getD (Nat.succ i) d)=xs.filter t:=ih
   by_cases h:t x=true
   · rw [if_pos (show t ((x :: xs).getD 0 d)=true from h),if_pos h,List.map_cons,List.map_map]
     congr 1
   · rw [if_neg (show ¬ t ((x :: xs).getD 0 d)=true from h),if_neg h,List.map_map]
     exact e
theorem jw:∀ l:List Int,((List.range (l.length - 1)).filter λi=>decide (l.getD (i + 1) 0 ≠ l.getD i 0)).length=chg l
 | []=>rfl
 | [_]=>rfl
 | a :: b :: l=>by
   have ih:=jw (b :: l)
   rw [chg,<- ih]
   show ((List.range (l.length + 1)).filter _).length=_
   rw [List.range_succ_eq_map,List.filter_cons,List.filter_map]
   have e:(((List.range l.length).filter ((λi=>decide ((a :: b :: l).getD (i + 1) 0 ≠ (a :: b :: l).getD i 0)) ∘ Nat.succ)).map Nat.succ).length=((List.range ((b :: l).length - 1)).filter λi=>decide ((b :: l).getD (i + 1) 0 ≠ (b :: l).getD i 0)).length:=by
     rw [List.length_map]
     rfl
   by_cases h:a=b
   · subst h
     rw [if_neg (by simp),if_pos rfl,Nat.zero_add]
     exact e
   · rw [if_pos (by simpa using λz=>h z.symm),if_neg h,List.length_cons,e,Nat.add_comm]
noncomputable def bW (ds:List D) (r:Sl):Prop:=∃ q:List Rat,ds=[rwQ q]/\1<=q.length/\q.length<=7/\r=.d .non
noncomputable def fm (ds:List D) (r:Sl):Prop:=∃ q:Rat,ds=[frD q]/\r=.d (.int (sgR q))
noncomputable def cJ (ds:List D) (r:Sl):Prop:=∃ q:List Rat,ds=[rwQ q]/\q.length<=1000/\r=.o ((q.map sgR).map .int)
noncomputable def bR (ds:List D) (r:Sl):Prop:=∃ q:List Rat,ds=[rwQ q]/\1<=q.length/\q.length<=7/\r=.d (.int (chg (nzS q):Nat))
theorem px (q:List Rat):(nzS q).length<=q.length:=by
 unfold nzS
 exact Nat.le_trans (List.length_filter_le ..) (by rw [List.length_map]; exact Nat.le_refl _)
noncomputable def bZ (ds:List D) (r:Sl):Prop:=∃ q:List Rat,ds=[rwQ q]/\1<=q.length/\q.length<=7/\r=.d (.int ((mcS (λk=>sgR (q.getD k 0)) q.length).1:Nat))
section
variable {P:Program} {w:World} {K:PySem.W.Frag} {mg:Str->Option Value} {base:Heap} {k:Nat} {f:Addr} {fd:FuncData} {qual:Str}
theorem jX (F:Fun K "look_row" qual (top 34) f fd) (hb:∀ x ∈ ao,mg x=none) (c_is_row:Cal P w K mg base k "is_row" eV):aN P w K mg base CX0 (k + 1) f fd ["thing"] (spD K bW):=by
 refine fnD F ka hb (by rintro _ _ ⟨_,rfl,_⟩; rfl) ?_
 rintro _ _ ⟨q,rfl,h1,h7,rfl⟩ cdv A outer s H E b
 exact fQ (cV (cX (x_call b c_is_row (ab (aa 0) af) ⟨q,rfl,h1,h7,rfl⟩))) rfl (aO rfl)
theorem lM (F:Fun K "sign_of" qual (top 35) f fd) (hb:∀ x ∈ ao,mg x=none):aN P w K mg base CX0 (k + 1) f fd ["number"] (spD K fm):=by
 refine fnD F lx hb (by rintro _ _ ⟨_,rfl,_⟩; rfl) ?_
 rintro _ _ ⟨q,rfl,rfl⟩ cdv A outer s H E b
 unfold sgR
 refine b9 (aU (aP (aa 0) ae (a6 (aV (i:=0) rfl))) ae dQ) (λh=>?_) λh=>?_
 · rw [if_pos (Rat.num_eq_zero.mp (of_decide_eq_true h))]
   exact aH ae rfl
 · rw [if_neg λz=>of_decide_eq_false h (by rw [z]; rfl)]
   refine aH (mY (aU (aP (aa 0) ae (a6 (aV (i:=0) rfl))) ae ki) (λh=>?_) λh=>?_) rfl
   · rw [if_pos ((lH q).mp (of_decide_eq_true h))]
     exact ae
   · rw [if_neg λz=>of_decide_eq_false h ((lH q).mpr z)]
     exact fL ae
theorem kF (F:Fun K "signs_of" qual (top 36) f fd) (hb:∀ x ∈ ao,mg x=none) (c_sign_of:Cal P w K mg base k "sign_of" fm):aN P w K mg base CX0 (k + 1) f fd ["row"] (spD K cJ):=by
 refine fnD F jY hb (by rintro _ _ ⟨_,rfl,_⟩; rfl) ?_
 rintro _ _ ⟨q,rfl,h7,rfl⟩ cdv A outer s H E b
 refine aH (bL (cmp 0 (g:=λi=>frD (q.getD i 0)) (f:=λi=>.int (sgR (q.getD i 0))) b (aS (aa 0)) (bN (f:=frD) (xs:=q) 0) (by rw [List.length_map]; omega) λi hi s0 H0 fp=>(x_call (b.comp s0 H0 _ fp) c_sign_of (ab (aa 0) af) ⟨_,rfl,rfl⟩))) ?_
 rw [List.map_map]
 exact congrArg Sl.o (cf (λx:Rat=>D.int (sgR x)) q 0 (List.length_map ..))
set_option maxHeartbeats 1000000 in
theorem fI (F:Fun K "least_changes" qual (top 37) f fd) (hb:∀ x ∈ ao,mg x=none) (c_look_row:Cal P w K mg base k "look_row" bW) (c_signs_of:Cal P w K mg base k "signs_of" cJ):aN P w K mg base CX0 (k + 1) f fd ["row"] (spD K bR):=by
 refine fnD F cE hb (by rintro _ _ ⟨_,rfl,_⟩; rfl) ?_
 rintro _ _ ⟨q,rfl,h1,h7,rfl⟩ cdv A outer s H E b
 have nd:=cE.nd
 refine ea (x_call b c_look_row (ab (aa 0) af) ⟨q,rfl,h1,h7,rfl⟩) ?_
 refine az 1 nd (aR (x:=.lst ((nzS q).map .int)) (bL (l4 0 (g:=λi=>.int ((q.map sgR).getD i 0)) (f:=λi=>.int ((q.map sgR).getD i 0)) (t:=λi=>decide ((q.map sgR).getD i 0 ≠ 0)) b (aS (aR (x_call b c_signs_of (ab (aa 0) af) ⟨q,rfl,by omega,rfl⟩))) rL (by rw [List.length_map,List.length_map]; omega) (λi hi s0 H0 fp=>?_) λi hi _ s0 H0 fp=>aa 0)) ?_) ?_
 · have e:decide ((q.map sgR).getD i 0 ≠ 0)=!decide ((q.map sgR).getD i 0=0):=by simp
   rw [e]
   exact aU (aa 0) ae iy
 · refine congrArg (λl=>some (D.lst l)) ?_
   have e:((q.map sgR).map D.int).length=(q.map sgR).length:=List.length_map ..
   unfold nzS
   rw [e,<- mT (λs=>decide (s ≠ 0)) (q.map sgR) 0]
   generalize q.map sgR=l
   rw [List.map_map]
   rfl
 have ln:=px q
 generalize nzS q=l at ln ⊢
 refine aH (a5 b (ab (aR (x:=.lst (((List.range (l.length - 1)).filter λi=>decide (l.getD (i + 1) 0 ≠ l.getD i 0)).map λi=>.int (1 + (i:Nat)))) (bL (l4 0 (g:=λi=>.int (1 + (i:Nat))) (f:=λi=>.int (1 + (i:Nat))) (t:=λi=>decide (l.getD (i + 1) 0 ≠ l.getD i 0)) b (gw b ae (a5 b (ab (aa 1) af) (fN (n:=l.length) (List.length_map ..))) (by omega)) kP (by rw [aw]; omega) (λi hi s0 H0 fp=>?_) λi hi _ s0 H0 fp=>aa 0)) ?_) af) dX) ?_
 · have hi:i + 1 < l.length:=by rw [aw] at hi; omega
   have e:decide (l.getD (i + 1) 0 ≠ l.getD i 0)=!decide (l.getD (i + 1) 0=l.getD i 0):=by simp
   rw [e]
   exact aU (aP (aa 1) (aa 0) (aW (by rw [show 1 + ((i:Nat):Int)=((i + 1:Nat):Int) by omega]; exact atR hi))) (aP (aa 1) (aA (aa 0) ae eY) (aW (by rw [show 1 + ((i:Nat):Int) - 1=((i:Nat):Int) by omega]; exact atR (by omega)))) iy
 · rw [aw,show (((l.length:Nat):Int) - 1).toNat=l.length - 1 by omega]
   rfl
 · rw [List.length_map,jw]
set_option maxHeartbeats 1000000 in
theorem fW (F:Fun K "most_changes" qual (top 38) f fd) (hb:∀ x ∈ ao,mg x=none) (c_look_row:Cal P w K mg base k "look_row" bW) (c_signs_of:Cal P w K mg base k "signs_of" cJ):aN P w K mg base CX0 (k + 1) f fd ["row"] (spD K bZ):=by
 refine fnD F cU hb (by rintro _ _ ⟨_,rfl,_⟩; rfl) ?_
 rintro _ _ ⟨q,rfl,h1,h7,rfl⟩ cdv A outer s H E b
 have nd:=cU.nd
 refine ea (x_call b c_look_row (ab (aa 0) af) ⟨q,rfl,h1,h7,rfl⟩) ?_
 refine az 1 nd ae ?_
 refine az 2 nd ae ?_
 have lq:(fB ((q.map sgR).map D.int)).length=q.length:=by rw [b7,List.length_map,List.length_map]
 refine lI 3 4 (g:=λi=>.int (i:Nat)) (g':=λi=>.int ((q.map sgR).getD i 0)) (λi τ=>∃ s3 s4 s5,τ=[.d (rwQ q),.d (.int ((mcS (λk=>sgR (q.getD k 0)) i).1:Nat)),.d (.int (mcS (λk=>sgR (q.getD k 0)) i).2),s3,s4,s5]) b nd (oR b (aR (x_call b c_signs_of (ab (aa 0) af) ⟨q,rfl,by omega,rfl⟩))) rZ ⟨_,_,_,rfl⟩ (λi hi τ h=>?_) λτ h=>?_
 · obtain ⟨s3,s4,s5,rfl⟩:=h
   rw [lq] at hi
   have es:(q.map sgR).getD i 0=sgR (q.getD i 0):=by simp [hi]
   rw [es]
   have e2:(mcS (λk=>sgR (q.getD k 0)) (i + 1)).2=if sgR (q.getD i 0) ≠ 0 then sgR (q.getD i 0) else -(mcS (λk=>sgR (q.getD k 0)) i).2:=rfl
   have e1:(mcS (λk=>sgR (q.getD k 0)) (i + 1)).1=if 0 < i/\((mcS (λk=>sgR (q.getD k 0)) i).2=0\/(mcS (λk=>sgR (q.getD k 0)) (i + 1)).2 ≠ (mcS (λk=>sgR (q.getD k 0)) i).2) then (mcS (λk=>sgR (q.getD k 0)) i).1 + 1 else (mcS (λk=>sgR (q.getD k 0)) i).1:=by rw [mcS]
   rw [e1]
   generalize (mcS (λk=>sgR (q.getD k 0)) (i + 1)).2=t at e2 ⊢
   generalize mcS (λk=>sgR (q.getD k 0)) i=st at e2 ⊢
   generalize sgR (q.getD i 0)=sg at e2 ⊢
   obtain ⟨c,l⟩:=st
   simp only at e2 ⊢
   refine az 5 nd (s:=.d (.int t)) (mY (aU (aa 4) ae iy) (λh=>?_) λh=>?_) ?_
   · have h:sg ≠ 0:=by simpa using h
     rw [e2,if_pos h]
     exact aa 4
   · have h:¬ sg ≠ 0:=by simpa using h
     rw [e2,if_neg h]
     exact fL (aa 2)
   refine ko (M:=λτ=>∃ s3 s4,τ=[.d (rwQ q),.d (.int ((if 0 < i/\(l=0\/t ≠ l) then c + 1 else c:Nat):Int)),.d (.int l),s3,s4,.d (.int t)]) (PW.pt (r9 (aU (aa 3) ae ki) λh=>(pQ (PW.pt (k9 (aU (aa 2) ae dQ) λh=>(iI (aU (aa 5) (aa 2) iy))))))) (λh=>?_) (λh=>?_) λτ h=>?_
   · have h:0 < i/\(l=0\/t ≠ l):=by simpa using h
     rw [if_pos h]
     exact az 1 nd (aA (aa 1) ae aT) (aO ⟨_,_,rfl⟩)
   · have h:¬ (0 < i/\(l=0\/t ≠ l)):=by
       intro z
       have:(decide ((i:Int) > 0) && (decide (l=0) || !decide (t=l)))=true:=by simpa using z
       rw [this] at h
       cases h
     rw [if_neg h]
     exact aO ⟨_,_,rfl⟩
   · obtain ⟨s3',s4',rfl⟩:=h
     exact az 2 nd (aa 5) (aO ⟨_,_,_,rfl⟩)
 · obtain ⟨s3,s4,s5,rfl⟩:=h
   rw [lq]
   exact aH (aa 1) rfl
end
noncomputable def bhQ (R C:Nat) (M:List (List Rat)) (x:List Rat):List Rat:=(List.range R).map λi=>ax (λj=>qM M i j * x.getD j 0) C
noncomputable def gi (ds:List D) (r:Sl):Prop:=∃ (R C d v:Nat) (M:List (List Rat)) (x:List Rat),ds=[tbQ M,rwQ x]/\Tq R C M/\x.length=C/\(∀ r ∈ M,∀ q ∈ r,Qs d v q)/\(∀ q ∈ x,Qs d v q)/\2 + 2 * (C * d)<=8999/\v + (1 + C * d)<=8999/\v + d<=8999/\r=.o ((bhQ R C M x).map frD)
theorem rO {C:Nat} {x:List Rat} (h:x.length=C) (c1:1<=C) (c7:C<=7):Tq C 1 (x.map λq=>[q]):=⟨c1,c7,Nat.le_refl 1,by omega,by rw [List.length_map,h],λr hr=>by
 obtain ⟨q,_,rfl⟩:=List.mem_map.mp hr
 rfl⟩
theorem vE {R C:Nat} {M:List (List Rat)} {x:List Rat} (t:Tq R C M) (h:x.length=C):jq (pdM M (x.map λq=>[q]) 1) 0=bhQ R C M x:=by
 have t2:=rO h t.c1 t.c7
 have tp:=p6 t t2
 unfold jq bhQ
 refine List.ext_getElem (by rw [List.length_map,tp.len,List.length_map,List.length_range]) λi h1 h2=>?_
 have hi:i < R:=by simpa using h2
 have e:=uo t t2 hi (j:=0) (by omega)
 have e1:((pdM M (x.map λq=>[q]) 1).map λr=>r.getD 0 0)[i]=qM (pdM M (x.map λq=>[q]) 1) i 0:=by
   unfold qM
   have:i < (pdM M (x.map λq=>[q]) 1).length:=by rw [tp.len]; exact hi
   simp [this]
 rw [e1,e]
 simp only [List.getElem_map,List.getElem_range]
 unfold mulQ
 refine av λk hk=>?_
 congr 1
 unfold qM
 simp [show k < x.length by omega]
section
variable {P:Program} {w:World} {K:PySem.W.Frag} {mg:Str->Option Value} {base:Heap} {k:Nat} {f:Addr} {fd:FuncData} {qual:Str}
theorem nU (F:Fun K "behind" qual (top 39) f fd) (hb:∀ x ∈ ao,mg x=none) (c_look_table:Cal P w K mg base k "look_table" bx) (c_look_row:Cal P w K mg base k "look_row" bW) (c_column_of:Cal P w K mg base k "column_of" cj) (c_product:Cal P w K mg base k "product" fy):aN P w K mg base CX0 (k + 1) f fd ["table","row"] (spD K gi):=by
 refine fnD F nX hb (by rintro _ _ ⟨_,_,_,_,_,_,rfl,_⟩; rfl) ?_
 rintro _ _ ⟨R,C,d,v,M,x,rfl,t,hx,hq,hq2,z1,z2,z3,rfl⟩ cdv A outer s H E b
 have c1:=t.c1
 have c7:=t.c7
 have t2:=rO hx c1 c7
 refine ea (x_call b c_look_table (ab (aa 0) af) ⟨R,C,M,rfl,t,rfl⟩) ?_
 refine ea (x_call b c_look_row (ab (aa 1) af) ⟨x,rfl,by omega,by omega,rfl⟩) ?_
 refine aH (x_call b c_column_of (ab (aR (x:=tbQ (pdM M (x.map λq=>[q]) 1)) (x_call b c_product (ab (aa 0) (ab (aR (x:=tbQ (x.map λq=>[q])) (bL (cmp 0 (g:=λi=>frD (x.getD i 0)) (f:=λi=>rwQ [x.getD i 0]) b (aS (aa 1)) (bN (f:=frD) (xs:=x) 0) (by rw [List.length_map]; omega) λi hi s0 H0 fp=>aR (bJ (ab (aa 0) af)))) ?_) af)) ⟨R,C,1,d,v,M,_,rfl,t,t2,hq,?_,z1,z2,z3,rfl⟩)) (ab ae af)) ⟨R,1,_,0,rfl,p6 t t2,by omega,rfl⟩) ?_
 · refine congrArg (λl=>some (D.lst l)) ((cf (λq:Rat=>rwQ [q]) x 0 (List.length_map ..)).trans ?_)
   rw [List.map_map]
   rfl
 · intro r hr q hq'
   obtain ⟨y,hy,rfl⟩:=List.mem_map.mp hr
   rw [List.mem_singleton.mp hq']
   exact hq2 y hy
 · rw [vE t hx]
end
noncomputable def df (ds:List D) (r:Sl):Prop:=∃ q:Rat,ds=[frD q]/\r=.d (.int (sgR q))
theorem uG (q:Rat):(if decide (q.num > 0)=true then (1:Int) else 0) - (if decide (q.num < 0)=true then (1:Int) else 0)=sgR q:=by
 unfold sgR
 have h1:=lH q
 by_cases h:q=0
 · rw [if_pos h,h]
   rfl
 · have hn:q.num ≠ 0:=λz=>h (Rat.num_eq_zero.mp z)
   rw [if_neg h]
   by_cases p:0 < q
   · have p':=h1.mpr p
     rw [if_pos p,decide_eq_true p',decide_eq_false (by omega)]
     rfl
   · have p':¬ q.num > 0:=λz=>p (h1.mp z)
     rw [if_neg p,decide_eq_false p',decide_eq_true (by omega)]
     rfl
noncomputable def fo (ds:List D) (r:Sl):Prop:=∃ q:List Rat,ds=[rwQ q]/\q.length<=1000/\r=.d (.int (chg (nzS q):Nat))
theorem t9 (q:List Rat):(q.filter λx=>decide (x.num ≠ 0)).map sgR=nzS q:=by
 unfold nzS
 induction q with
 | nil=>rfl
 | cons x q ih=>
   rw [List.map_cons,List.filter_cons,List.filter_cons]
   by_cases h:x=0
   · rw [if_neg (by simp [h]),if_neg (by simp [sgR,h])]
     exact ih
   · have hn:x.num ≠ 0:=λz=>h (Rat.num_eq_zero.mp z)
     rw [if_pos (by simpa using hn),if_pos (by simpa using p7 h),List.map_cons,ih]
noncomputable def fv (ds:List D) (r:Sl):Prop:=∃ q:List Rat,ds=[rwQ q]/\r=.d (.int ((nzS q).getD 0 0))
theorem qK {q:List Rat} (h:nzS q=[]) (x:Rat):nzS (q++[x])=if x=0 then [] else [sgR x]:=by
 unfold nzS at h ⊢
 rw [List.map_append,List.filter_append,h]
 by_cases z:x=0
 · rw [if_pos z,z]
   rfl
 · rw [if_neg z,List.map_cons,List.filter_cons_of_pos (by simpa using p7 z)]
   rfl
theorem sP {q t:List Rat} {s:Int} {l:List Int} (h:nzS q=s :: l):(nzS (q++t)).getD 0 0=s:=by
 unfold nzS at h ⊢
 rw [List.map_append,List.filter_append,h]
 rfl
section
variable {P:Program} {w:World} {K:PySem.W.Frag} {mg:Str->Option Value} {base:Heap} {k:Nat} {f:Addr} {fd:FuncData} {qual:Str}
theorem ng (F:Fun K "_law_sign" qual (top 48) f fd) (hb:∀ x ∈ ao,mg x=none):aN P w K mg base CX0 (k + 1) f fd ["_law_number_here"] (spD K df):=by
 refine fnD F og hb (by rintro _ _ ⟨_,rfl,_⟩; rfl) ?_
 rintro _ _ ⟨q,rfl,rfl⟩ cdv A outer s H E b
 refine aH (aA (km b (ab (cc (aP (aa 0) ae (a6 (aV (i:=0) rfl))) ae ki) af) i4) (km b (ab (cc (aP (aa 0) ae (a6 (aV (i:=0) rfl))) ae jU) af) i4) eY) ?_
 rw [uG]
set_option maxHeartbeats 1000000 in
theorem k8 (F:Fun K "_law_least" qual (top 49) f fd) (hb:∀ x ∈ ao,mg x=none) (c_l_sign:Cal P w K mg base k "_law_sign" df):aN P w K mg base CX0 (k + 1) f fd ["_law_row_here"] (spD K fo):=by
 refine fnD F gP hb (by rintro _ _ ⟨_,rfl,_⟩; rfl) ?_
 rintro _ _ ⟨q,rfl,h7,rfl⟩ cdv A outer s H E b
 have nd:=gP.nd
 have ln:=px q
 refine az 1 nd (aR (x:=.lst ((nzS q).map .int)) (bL (l4 0 (g:=λi=>frD (q.getD i 0)) (f:=λi=>.int (sgR (q.getD i 0))) (t:=λi=>decide ((q.getD i 0).num ≠ 0)) b (aS (aa 0)) (bN (f:=frD) (xs:=q) 0) (by rw [List.length_map]; omega) (λi hi s0 H0 fp=>?_) λi hi _ s0 H0 fp=>x_call (b.comp s0 H0 _ fp) c_l_sign (ab (aa 0) af) ⟨_,rfl,rfl⟩)) ?_) ?_
 · have e:decide ((q.getD i 0).num ≠ 0)=!decide ((q.getD i 0).num=0):=by simp
   rw [e]
   exact aU (aP (aa 0) ae (a6 (aV (i:=0) rfl))) ae iy
 · refine congrArg (λl=>some (D.lst l)) ?_
   have e:(q.map frD).length=q.length:=List.length_map ..
   rw [e,<- t9,<- mT (λx:Rat=>decide (x.num ≠ 0)) q 0,List.map_map,List.map_map]
   rfl
 generalize nzS q=l at ln ⊢
 refine aH (a5 b (ab (aR (x:=.lst (((List.range (l.length - 1)).filter λi=>decide (l.getD (i + 1) 0 ≠ l.getD i 0)).map λi=>.int (1 + (i:Nat)))) (bL (l4 0 (g:=λi=>.int (1 + (i:Nat))) (f:=λi=>.int (1 + (i:Nat))) (t:=λi=>decide (l.getD (i + 1) 0 ≠ l.getD i 0)) b (gw b ae (a5 b (ab (aa 1) af) (fN (n:=l.length) (List.length_map ..))) (by omega)) kP (by rw [aw]; omega) (λi hi s0 H0 fp=>?_) λi hi _ s0 H0 fp=>aa 0)) ?_) af) dX) ?_
 · have hi:i + 1 < l.length:=by rw [aw] at hi; omega
   have e:decide (l.getD (i + 1) 0 ≠ l.getD i 0)=!decide (l.getD (i + 1) 0=l.getD i 0):=by simp
   rw [e]
   exact aU (aP (aa 1) (aa 0) (aW (by rw [show 1 + ((i:Nat):Int)=((i + 1:Nat):Int) by omega]; exact atR hi))) (aP (aa 1) (aA (aa 0) ae eY) (aW (by rw [show 1 + ((i:Nat):Int) - 1=((i:Nat):Int) by omega]; exact atR (by omega)))) iy
 · rw [aw,show (((l.length:Nat):Int) - 1).toNat=l.length - 1 by omega]
   rfl
 · rw [List.length_map,jw]
theorem lN (F:Fun K "_law_first" qual (top 50) f fd) (hb:∀ x ∈ ao,mg x=none) (c_l_sign:Cal P w K mg base k "_law_sign" df):aN P w K mg base CX0 (k + 1) f fd ["_law_row_here"] (spD K fv):=by
 refine fnD F gr hb (by rintro _ _ ⟨_,rfl,_⟩; rfl) ?_
 rintro _ _ ⟨q,rfl,rfl⟩ cdv A outer s H E b
 have nd:=gr.nd
 refine bI 1 (g:=λi=>frD (q.getD i 0)) (λi τ=>nzS (q.take i)=[]/\∃ s1,τ=[.d (rwQ q),s1]) b nd (aS (aa 0)) (bN (f:=frD) (xs:=q) 0) ⟨rfl,.un,rfl⟩ (λi hi τ h=>?_) λτ h=>?_
 · obtain ⟨h0,s1,rfl⟩:=h
   have hi:i < q.length:=by simpa using hi
   have et:q.take (i + 1)=q.take i++[q.getD i 0]:=by rw [List.take_add_one]; simp [hi]
   have sn:=qK h0 (q.getD i 0)
   refine b9 (aU (aP (aa 1) ae (a6 (aV (i:=0) rfl))) ae iy) (λh=>?_) λh=>?_
   · have h:(q.getD i 0).num ≠ 0:=by simpa using h
     have hz:q.getD i 0 ≠ 0:=λz=>h (by rw [z]; rfl)
     rw [if_neg hz] at sn
     have e:(nzS q).getD 0 0=sgR (q.getD i 0):=by
       have:=sP (t:=q.drop (i + 1)) (s:=sgR (q.getD i 0)) (l:=[]) (by rw [<- sn,<- et])
       rwa [List.take_append_drop] at this
     exact aH (x_call b c_l_sign (ab (aa 1) af) ⟨_,rfl,rfl⟩) (by rw [e])
   · have h:(q.getD i 0).num=0:=by simpa using h
     rw [if_pos (Rat.num_eq_zero.mp h)] at sn
     exact aO ⟨by rw [et]; exact sn,_,rfl⟩
 · obtain ⟨h0,s1,rfl⟩:=h
   rw [List.length_map,List.take_length] at h0
   rw [h0]
   exact aH ae rfl
end
noncomputable def lmS (s:Nat->Int):Nat->Int × Int
 | 0=>(0,0)
 | k + 1=>(if s k < 0 then -100 else max (lmS s k).1 ((lmS s k).2 + if 0 < k then 1 else 0),if s k > 0 then -100 else max (lmS s k).2 ((lmS s k).1 + if 0 < k then 1 else 0))
theorem rK {s:Nat->Int} (h:∀ k,s k=0\/s k=1\/s k=-1):∀ n,((mcS s (n + 1)).2=0/\(lmS s (n + 1)).1=((mcS s (n + 1)).1:Int)/\(lmS s (n + 1)).2=((mcS s (n + 1)).1:Int))\/((mcS s (n + 1)).2=1/\(lmS s (n + 1)).1=((mcS s (n + 1)).1:Int)/\(lmS s (n + 1)).2<=((mcS s (n + 1)).1:Int) - 1)\/((mcS s (n + 1)).2=-1/\(lmS s (n + 1)).2=((mcS s (n + 1)).1:Int)/\(lmS s (n + 1)).1<=((mcS s (n + 1)).1:Int) - 1)
 | 0=>by
   rcases h 0 with q | q | q
   · left
     simp [mcS,lmS,q]
   · right; left
     simp [mcS,lmS,q]
   · right; right
     simp [mcS,lmS,q]
 | n + 1=>by
   have ih:=rK h n
   have e1:(mcS s (n + 1 + 1)).1=if (mcS s (n + 1)).2=0\/(if s (n + 1) ≠ 0 then s (n + 1) else -(mcS s (n + 1)).2) ≠ (mcS s (n + 1)).2 then (mcS s (n + 1)).1 + 1 else (mcS s (n + 1)).1:=by
     rw [mcS]
     by_cases q:(mcS s (n + 1)).2=0\/(if s (n + 1) ≠ 0 then s (n + 1) else -(mcS s (n + 1)).2) ≠ (mcS s (n + 1)).2
     · exact (if_pos ⟨by omega,q⟩).trans (if_pos q).symm
     · exact (if_neg λz=>q z.2).trans (if_neg q).symm
   have e2:(mcS s (n + 1 + 1)).2=if s (n + 1) ≠ 0 then s (n + 1) else -(mcS s (n + 1)).2:=rfl
   have e3:(lmS s (n + 1 + 1)).1=if s (n + 1) < 0 then -100 else max (lmS s (n + 1)).1 ((lmS s (n + 1)).2 + 1):=by rw [lmS]; simp
   have e4:(lmS s (n + 1 + 1)).2=if s (n + 1) > 0 then -100 else max (lmS s (n + 1)).2 ((lmS s (n + 1)).1 + 1):=by rw [lmS]; simp
   rw [e1,e2,e3,e4]
   generalize mcS s (n + 1)=st at ih ⊢
   generalize lmS s (n + 1)=lt at ih ⊢
   obtain ⟨c,l⟩:=st
   obtain ⟨u,d⟩:=lt
   simp only at ih ⊢
   have hs:=h (n + 1)
   generalize s (n + 1)=x at hs ⊢
   rcases hs with rfl | rfl | rfl
   · simp only [ne_eq,not_true_eq_false,if_false,Int.lt_irrefl,gt_iff_lt]
     rcases ih with ⟨rfl,h2,h3⟩ | ⟨rfl,h2,h3⟩ | ⟨rfl,h2,h3⟩ <;> simp <;> omega
   · simp only [ne_eq,if_true,gt_iff_lt]
     rcases ih with ⟨rfl,h2,h3⟩ | ⟨rfl,h2,h3⟩ | ⟨rfl,h2,h3⟩ <;> simp <;> omega
   · simp only [ne_eq,if_true,gt_iff_lt]
     rcases ih with ⟨rfl,h2,h3⟩ | ⟨rfl,h2,h3⟩ | ⟨rfl,h2,h3⟩ <;> simp <;> omega
theorem uI {s:Nat->Int} (h:∀ k,s k=0\/s k=1\/s k=-1) {n:Nat} (hn:1<=n):max (lmS s n).1 (lmS s n).2=((mcS s n).1:Int):=by
 obtain ⟨m,rfl⟩:∃ m,n=m + 1:=⟨n - 1,by omega⟩
 rcases rK h m with ⟨_,a,b⟩ | ⟨_,a,b⟩ | ⟨_,a,b⟩ <;> omega
theorem sL {q:List Rat} (i:Nat) (h:i < (fB (q.map frD)).length):(fB (q.map frD))[i]=.tup [.int (i:Nat),frD (q.getD i 0)]:=by
 have:i < q.length:=by rw [b7] at h; simpa using h
 rw [jm]
 simp [this]
theorem rP (a b:Int) (t:Bool):atI [D.int a,D.int b] (if t=true then 1 else 0)=some (.int (if t=true then b else a)):=by
 cases t <;> rfl
noncomputable def gR (ds:List D) (r:Sl):Prop:=∃ q:List Rat,ds=[rwQ q]/\1<=q.length/\r=.d (.int ((mcS (λk=>sgR (q.getD k 0)) q.length).1:Nat))
theorem u3 (x:Rat):sgR x=0\/sgR x=1\/sgR x=-1:=by
 rcases lG x with ⟨h,_⟩ | ⟨h,_⟩ | ⟨h,_⟩
 · exact .inl h
 · exact .inr (.inl h)
 · exact .inr (.inr h)
section
variable {P:Program} {w:World} {K:PySem.W.Frag} {mg:Str->Option Value} {base:Heap} {k:Nat} {f:Addr} {fd:FuncData} {qual:Str}
set_option maxHeartbeats 1000000 in
theorem nF (F:Fun K "_law_most" qual (top 52) f fd) (hb:∀ x ∈ ao,mg x=none) (c_l_sign:Cal P w K mg base k "_law_sign" df):aN P w K mg base CX0 (k + 1) f fd ["_law_row_here"] (spD K gR):=by
 refine fnD F iY hb (by rintro _ _ ⟨_,rfl,_⟩; rfl) ?_
 rintro _ _ ⟨q,rfl,h1,rfl⟩ cdv A outer s H E b
 have nd:=iY.nd
 have fin:=uI (s:=λk=>sgR (q.getD k 0)) (λk=>u3 _) h1
 refine az 1 nd (aR (bJ (ab ae (ab ae af)))) ?_
 have lq:(fB (q.map frD)).length=q.length:=by rw [b7,List.length_map]
 refine lI 2 3 (g:=λi=>.int (i:Nat)) (g':=λi=>frD (q.getD i 0)) (λi τ=>∃ s2 s3 s4 s5 s6,τ=[.d (rwQ q),.d (.lst [.int (lmS (λk=>sgR (q.getD k 0)) i).1,.int (lmS (λk=>sgR (q.getD k 0)) i).2]),s2,s3,s4,s5,s6]) b nd (oR b (aa 0)) sL ⟨_,_,_,_,_,rfl⟩ (λi hi τ h=>?_) λτ h=>?_
 · obtain ⟨s2,s3,s4,s5,s6,rfl⟩:=h
   have e1:(lmS (λk=>sgR (q.getD k 0)) (i + 1)).1=if sgR (q.getD i 0) < 0 then -100 else max (lmS (λk=>sgR (q.getD k 0)) i).1 ((lmS (λk=>sgR (q.getD k 0)) i).2 + if 0 < i then 1 else 0):=by rw [lmS]
   have e2:(lmS (λk=>sgR (q.getD k 0)) (i + 1)).2=if sgR (q.getD i 0) > 0 then -100 else max (lmS (λk=>sgR (q.getD k 0)) i).2 ((lmS (λk=>sgR (q.getD k 0)) i).1 + if 0 < i then 1 else 0):=by rw [lmS]
   rw [e1,e2]
   generalize lmS (λk=>sgR (q.getD k 0)) i=st
   obtain ⟨u,d⟩:=st
   simp only
   have k1:(if decide ((i:Int) > 0)=true then (1:Int) else 0)=if 0 < i then 1 else 0:=by
     by_cases z:0 < i
     · rw [if_pos z,if_pos (by simpa using z)]
     · rw [if_neg z,if_neg (by simpa using z)]
   have mx:∀ a c:Int,(if c > a then c else a)=max a c:=λa c=>by
     split <;> omega
   refine az 4 nd (x_call b c_l_sign (ab (aa 3) af) ⟨_,rfl,rfl⟩) ?_
   refine az 5 nd (a5 b (ab (aP (aa 1) ae (aW (aV (i:=0) rfl))) (ab (aA (aP (aa 1) ae (aW (aV (i:=1) rfl))) (km b (ab (cc (aa 2) ae ki) af) i4) aT) af)) (qa b.calm)) ?_
   refine az 6 nd (a5 b (ab (aP (aa 1) ae (aW (aV (i:=1) rfl))) (ab (aA (aP (aa 1) ae (aW (aV (i:=0) rfl))) (km b (ab (cc (aa 2) ae ki) af) i4) aT) af)) (qa b.calm)) ?_
   rw [mx,mx,k1]
   generalize max u (d + if 0 < i then 1 else 0)=up
   generalize max d (u + if 0 < i then 1 else 0)=dw
   generalize sgR (q.getD i 0)=sg
   refine az 1 nd (aR (bJ (ab (aP (aR (bJ (ab (aa 5) (ab (fL ae) af)))) (km b (ab (cc (aa 4) ae jU) af) i4) (aW (rP up (-100) (decide (sg < 0))))) (ab (aP (aR (bJ (ab (aa 6) (ab (fL ae) af)))) (km b (ab (cc (aa 4) ae ki) af) i4) (aW (rP dw (-100) (decide (sg > 0))))) af)))) (aO ⟨.d (.int (i:Nat)),.d (frD (q.getD i 0)),.d (.int sg),.d (.int up),.d (.int dw),?_⟩)
   have p1:(if decide (sg < 0)=true then (-100:Int) else up)=if sg < 0 then -100 else up:=by simp
   have p2:(if decide (sg > 0)=true then (-100:Int) else dw)=if sg > 0 then -100 else dw:=by simp
   rw [p1,p2]
   rfl
 · obtain ⟨s2,s3,s4,s5,s6,rfl⟩:=h
   rw [lq]
   refine aH (a5 b (ab (aa 1) af) (t6 b.calm (lmS (λk=>sgR (q.getD k 0)) q.length).1 [(lmS (λk=>sgR (q.getD k 0)) q.length).2] rfl)) ?_
   rw [<- fin]
   show Sl.d (D.int (fS _ [_]))=_
   congr 2
   unfold fS
   first
   | rfl
   | (simp [fS]; omega)
end
theorem u9 {n m:Nat} (h:m < n):ixN n (m:Int)=some m:=by
 unfold ixN
 rw [if_pos (by omega),if_pos (by omega)]
 rfl
noncomputable def rwB (n:Nat):List Int:=4 :: (List.replicate n (2 * 10 ^ 40 * 10 ^ 40)++List.replicate n 3)
noncomputable def rwP (c:Int) (n:Nat):List Int:=nums c (rwB n)
noncomputable def rwK (p0 p:Int):Rat:=if p0=3 then (((nmQ 3 p).num:Int):Rat) else nmQ p0.toNat p
noncomputable def rwL (c:Int) (n i:Nat):List Rat:=(List.range n).map λk=>if k < i/\(rwP c n).getD (1 + n + k) 0=0 then 0 else rwK ((rwP c n).getD 0 0) ((rwP c n).getD (1 + k) 0)
noncomputable def jo (ds:List D) (r:Sl):Prop:=∃ (c:Int) (n:Nat),ds=[.int c,.int (n:Nat)]/\1<=n/\n<=7/\r=.o ((rwL c n n).map frD)
theorem i7 (n:Nat):(rwB n).length=1 + n + n:=by unfold rwB; rw [List.length_cons,List.length_append,List.length_replicate,List.length_replicate]; omega
theorem rT (c:Int) (n:Nat):0<=(rwP c n).getD 0 0/\(rwP c n).getD 0 0 < 4:=jg (c:=c) (bs:=rwB n) (λb hb=>by
 unfold rwB at hb
 rcases List.mem_cons.mp hb with rfl | hb
 · decide
 · rcases List.mem_append.mp hb with hb | hb
   · rw [(List.mem_replicate.mp hb).2]; decide
   · rw [(List.mem_replicate.mp hb).2]; decide) (i:=0) (by rw [i7]; omega)
theorem uA {p0 p:Int} (h:0<=p0/\p0 < 4):Qs 3 133 (rwK p0 p):=by
 unfold rwK
 by_cases q:p0=3
 · rw [if_pos q]
   have n3:=r6 (kd:=3) p
   have e:nmQ 3 p=((nmT 3 p:Int):Rat) / ((nmB 3 p:Int):Rat):=if_neg (by decide)
   have hm:=lQ (kd:=3) p
   have hb:=(gI (kd:=3) p).1
   have hT:=o3 (kd:=3) p
   have h1:(nmQ 3 p).num.natAbs<=2 ^ 133:=by
     rw [(gW hb hm).1]
     exact Nat.le_trans (Int.natAbs_ediv_le_natAbs _ _) hT
   refine ⟨?_,?_⟩
   · rw [Rat.den_intCast]; unfold Bd; decide
   · rw [Rat.den_intCast,Rat.num_intCast,Nat.mul_one]; exact h1
 · rw [if_neg q]
   have:=r6 (kd:=p0.toNat) p
   have e1:kD p0.toNat=3:=by unfold kD; rw [if_neg (by omega)]
   have e2:kV p0.toNat=4:=by unfold kV; rw [if_neg (by omega)]
   rw [e1,e2] at this
   exact ⟨this.den,Nat.le_trans this.val (Nat.mul_le_mul_right _ (by decide))⟩
theorem tU {c:Int} {n i:Nat}:∀ x ∈ rwL c n i,Qs 3 133 x:=λx hx=>by
 unfold rwL at hx
 obtain ⟨k,_,rfl⟩:=List.mem_map.mp hx
 split
 · exact ⟨by unfold Bd; decide,Nat.zero_le _⟩
 · exact uA (rT c n)
theorem lX (i:Int):frD (i:Rat)=.tup [.int i,.int 1]:=by
 unfold frD
 rw [Rat.num_intCast,Rat.den_intCast]
 rfl
theorem qV {c:Int} {n i:Nat} (h:(rwP c n).getD (1 + n + i) 0=0):(rwL c n i).set i 0=rwL c n (i + 1):=by
 unfold rwL
 refine List.ext_getElem (by simp) λk h1 h2=>?_
 rw [List.getElem_set]
 simp only [List.getElem_map,List.getElem_range]
 by_cases e:i=k
 · subst e
   rw [if_pos rfl,if_pos ⟨by omega,h⟩]
 · rw [if_neg e]
   by_cases q:k < i/\(rwP c n).getD (1 + n + k) 0=0
   · rw [if_pos q,if_pos ⟨by omega,q.2⟩]
   · rw [if_neg q,if_neg λz=>q ⟨by omega,z.2⟩]
theorem sZ {c:Int} {n i:Nat} (h:¬ (rwP c n).getD (1 + n + i) 0=0):rwL c n i=rwL c n (i + 1):=by
 unfold rwL
 refine List.map_congr_left λk _=>?_
 by_cases q:k < i/\(rwP c n).getD (1 + n + k) 0=0
 · rw [if_pos q,if_pos ⟨by omega,q.2⟩]
 · rw [if_neg q,if_neg λz=>?_]
   rcases Nat.lt_or_ge k i with r | r
   · exact q ⟨r,z.2⟩
   · rw [show k=i by omega] at z; exact h z.2
section
variable {P:Program} {w:World} {K:PySem.W.Frag} {mg:Str->Option Value} {base:Heap} {k:Nat} {f:Addr} {fd:FuncData} {qual:Str}
set_option maxHeartbeats 2000000 in
theorem ow (F:Fun K "_law_row" qual (top 51) f fd) (hb:∀ x ∈ ao,mg x=none) (c_l_numbers:Cal P w K mg base k "_law_numbers" bM) (c_l_number:Cal P w K mg base k "_law_number" d8):aN P w K mg base CX0 (k + 1) f fd ["_law_cell_here","_law_many"] (spD K jo):=by
 refine fnD F jT hb (by rintro _ _ ⟨_,_,rfl,_⟩; rfl) ?_
 rintro _ _ ⟨c,n,rfl,n1,n7,rfl⟩ cdv A outer s H E b
 have nd:=jT.nd
 refine az 2 nd (aR (x_call b c_l_numbers (ab (aa 0) (ab (aR (kJ (aR (kJ (aR (bJ (ab ae af))) (aR (bL (cmp 0 (f:=λ_=>.int (2 * 10 ^ 40 * 10 ^ 40)) b (c8 b (aa 1) (by omega) (by omega)) cY (by rw [aw]; omega) λi hi s0 H0 fp=>(aA (aA ae (aA ae ae (gO ⟨by decide,by decide,by decide⟩)) (bP (mkL (by decide)))) (aA ae ae (gO ⟨by decide,by decide,by decide⟩)) (bP m40))))) ?_)) (aR (bL (cmp 0 (f:=λ_=>.int 3) b (c8 b (aa 1) (by omega) (by omega)) cY (by rw [aw]; omega) λi hi s0 H0 fp=>ae))) ?_)) af)) ⟨c,rwB n,?_,by rw [i7]; omega,?_,rfl⟩)) ?_
 · rw [List.length_map,List.length_range,aw]; show 1 + _ < _; omega
 · simp only [List.length_append,List.length_map,List.length_range,aw]
   show 1 + _ + _ < _
   omega
 · rw [aw,Int.toNat_natCast]
   unfold rwB
   rw [List.map_cons,List.map_append,List.map_replicate,List.map_replicate]
   refine congrArg (λl=>[D.int c,D.lst l]) ?_
   show D.int 4 :: ((List.range n).map (λ_=>D.int (2 * 10 ^ 40 * 10 ^ 40))++(List.range n).map λ_=>D.int 3)=_
   congr 2
   · exact List.ext_getElem (by simp) λi h1 h2=>by simp
   · exact List.ext_getElem (by simp) λi h1 h2=>by simp
 · intro x hx
   unfold rwB at hx
   rcases List.mem_cons.mp hx with rfl | hx
   · exact qE (by decide) (by decide)
   · rcases List.mem_append.mp hx with hx | hx
     · rw [(List.mem_replicate.mp hx).2]
       exact ⟨by decide,(show Bd 280 ((2:Int) * 10 ^ 40 * 10 ^ 40) by unfold Bd; decide +kernel).aE (by decide) (by decide)⟩
     · rw [(List.mem_replicate.mp hx).2]
       exact qE (by decide) (by decide)
 have ln:(rwP c n).length=1 + n + n:=by unfold rwP; rw [hE,i7]
 have p0:=rT c n
 have ek:(rwP c n).getD 0 0=((((rwP c n).getD 0 0).toNat:Nat):Int):=by omega
 have fin:∀ i,(rwL c n i).length=n:=λi=>by simp [rwL]
 have l0:rwL c n 0=(List.range n).map λk=>rwK ((rwP c n).getD 0 0) ((rwP c n).getD (1 + k) 0):=by
   unfold rwL
   exact List.map_congr_left λk _=>if_neg (by omega)
 have put:=λi=>qV (c:=c) (n:=n) (i:=i)
 have no:=λi=>sZ (c:=c) (n:=n) (i:=i)
 show PSs _ _ (dS K [.d (.int c),.d (.int (n:Nat)),.d (.lst ((rwP c n).map D.int)),.un,.un] _)
 generalize hp:rwP c n=p at *
 have cut:Hy.cutD (p.map D.int) (some 1) (some (1 + (n:Int)))=((p.take (1 + n)).drop 1).map D.int:=by
   rw [show (1:Int) + (n:Int)=((1 + n:Nat):Int) by omega,show (1:Int)=((1:Nat):Int) from rfl,Hy.lU,List.map_drop,List.map_take]
 have lc:((p.take (1 + n)).drop 1).length=n:=by rw [List.length_drop,List.length_take,ln]; omega
 have ac:∀ l (hl:l < (((p.take (1 + n)).drop 1).map D.int).length),(((p.take (1 + n)).drop 1).map D.int)[l]=.int (p.getD (1 + l) 0):=λl hl=>by
   have hl:l < n:=by rw [List.length_map,lc] at hl; exact hl
   simp [List.getElem_drop,List.getElem_take,List.getD_eq_getElem?_getD,show 1 + l < p.length by omega,show l + 1 < p.length by omega,Nat.add_comm 1 l]
 refine hG 3 nd (s:=.o (((List.range n).map λk=>nmQ (p.getD 0 0).toNat (p.getD (1 + k) 0)).map frD)) (cmp 0 (g:=λl=>.int (p.getD (1 + l) 0)) (f:=λl=>frD (nmQ (p.getD 0 0).toNat (p.getD (1 + l) 0))) b (aS (aR (vn (aa 2) (er ae) (er (aA ae (aa 1) aT))) (congrArg (λl=>some (D.lst l)) cut))) ac (by rw [List.length_map,lc]; omega) λl hl s0 H0 fp=>(x_call (b.comp s0 H0 _ fp) c_l_number (ab (aP (aa 1) ae (aW (atR (j:=0) (by omega)))) (ab (aa 0) af)) ⟨(p.getD 0 0).toNat,p.getD (1 + l) 0,congrArg (λz=>[D.int z,D.int (p.getD (1 + l) 0)]) ek,by omega,rfl⟩)) (.inl ?_) ?_
 · rw [List.length_map,lc,List.map_map]
   rfl
 refine ko (M:=λτ=>τ=[.d (.int c),.d (.int (n:Nat)),.d (.lst (p.map D.int)),.o ((rwL c n 0).map frD),.un]) (aU (aP (aa 2) ae (aW (atR (j:=0) (by omega)))) ae dQ) (λh=>?_) (λh=>?_) λτ h=>?_
 · have h:=of_decide_eq_true h
   refine rj 3 (x:=rwQ ((List.range n).map λk=>nmQ (p.getD 0 0).toNat (p.getD (1 + k) 0))) ?_
   refine hG 3 nd (s:=.o ((rwL c n 0).map frD)) (cmp 0 (g:=λl=>frD (((List.range n).map λk=>nmQ (p.getD 0 0).toNat (p.getD (1 + k) 0)).getD l 0)) (f:=λl=>frD (((((List.range n).map λk=>nmQ (p.getD 0 0).toNat (p.getD (1 + k) 0)).getD l 0).num:Int):Rat)) b (aS (aa 3)) (bN (f:=frD) (xs:=(List.range n).map λk=>nmQ (p.getD 0 0).toNat (p.getD (1 + k) 0)) 0) (by rw [List.length_map,List.length_map,List.length_range]; omega) λl hl s0 H0 fp=>?_) (.inl ?_) (aO rfl)
   · rw [lX]
     exact bO (ab (aP (aa 0) ae (a6 (aV (i:=0) rfl))) (ab ae af))
   · rw [l0,List.map_map,List.length_map,List.length_map,List.length_range]
     refine congrArg Sl.o (List.map_congr_left λk hk=>?_)
     have hk:=List.mem_range.mp hk
     unfold rwK
     show frD (if _ then _ else _)=_
     rw [if_pos h,h]
     simp [hk]
 · have h:=of_decide_eq_false h
   rw [l0]
   have e:((List.range n).map λk=>rwK (p.getD 0 0) (p.getD (1 + k) 0))=(List.range n).map λk=>nmQ (p.getD 0 0).toNat (p.getD (1 + k) 0):=List.map_congr_left λk _=>by unfold rwK; rw [if_neg h]
   rw [e]
   exact aO rfl
 subst h
 refine bI 4 (λi τ=>∃ s4,τ=[.d (.int c),.d (.int (n:Nat)),.d (.lst (p.map D.int)),.o ((rwL c n i).map frD),s4]) b nd (c8 b (aa 1) (by omega) (by omega)) cY ⟨_,rfl⟩ (λi hi τ h=>?_) λτ h=>?_
 · obtain ⟨s4,rfl⟩:=h
   have hi:i < n:=by rw [aw] at hi; omega
   have ai:atI (p.map D.int) (1 + (n:Int) + (i:Nat))=some (.int (p.getD (1 + n + i) 0)):=by
     rw [show (1:Int) + (n:Int) + ((i:Nat):Int)=((1 + n + i:Nat):Int) by omega]
     exact atR (by omega)
   refine ko (M:=λτ=>∃ s4,τ=[.d (.int c),.d (.int (n:Nat)),.d (.lst (p.map D.int)),.o ((rwL c n (i + 1)).map frD),s4]) (aU (aP (aa 2) (aA (aA ae (aa 1) aT) (aa 4) aT) (aW ai)) ae dQ) (λh=>?_) (λh=>?_) λτ h=>?_
   · have h:=of_decide_eq_true h
     refine vt 3 (xs:=(rwL c n i).map frD) (j:=i) (x:=frD 0) (aa 4) (bO (ab ae (ab ae af))) (by rw [List.length_map,fin]; exact u9 hi) (aO ⟨.d (.int (i:Nat)),?_⟩)
     rw [<- put i h,List.map_set]
     rfl
   · rw [<- no i (of_decide_eq_false h)]
     exact aO ⟨_,rfl⟩
   · obtain ⟨s4',rfl⟩:=h
     exact aO ⟨_,rfl⟩
 · obtain ⟨s4,rfl⟩:=h
   rw [aw,Int.toNat_natCast]
   exact jC 3 rfl
end
noncomputable def alV (r:List Rat):List (List Rat):=[r++[-1],r++[0],r++[1]]
noncomputable def alW:Nat->List (List Rat)
 | 0=>[[]]
 | n + 1=>(alW n).flatMap alV
theorem jN:∀ n,∀ r ∈ alW n,r.length=n/\∀ x ∈ r,Qs 3 133 x
 | 0,r,h=>by
   rw [List.mem_singleton.mp h]
   exact ⟨rfl,λx hx=>nomatch hx⟩
 | n + 1,r,h=>by
   obtain ⟨t,ht,hr⟩:=List.mem_flatMap.mp h
   obtain ⟨h1,h2⟩:=jN n t ht
   have key:∀ q:Rat,Qs 3 133 q->r=t++[q]->r.length=n + 1/\∀ x ∈ r,Qs 3 133 x:=λq hq e=>by
     subst e
     refine ⟨by rw [List.length_append,h1]; rfl,λx hx=>?_⟩
     rcases List.mem_append.mp hx with hx | hx
     · exact h2 x hx
     · rw [List.mem_singleton.mp hx]; exact hq
   unfold alV at hr
   simp only [List.mem_cons,List.not_mem_nil,or_false] at hr
   rcases hr with e | e | e
   · exact key (-1) ⟨by unfold Bd; decide,by decide⟩ e
   · exact key 0 ⟨by unfold Bd; decide,by decide⟩ e
   · exact key 1 ⟨by unfold Bd; decide,by decide⟩ e
theorem gd:∀ n,(alW n).length=3 ^ n
 | 0=>rfl
 | n + 1=>by
   have e:∀ l:List (List Rat),(l.flatMap alV).length=l.length * 3:=λl=>by
     induction l with
     | nil=>rfl
     | cons x l ih=>rw [List.flatMap_cons,List.length_append,ih]; show 3 + _=_; rw [List.length_cons]; omega
   rw [alW,e,gd n,Nat.pow_succ]
noncomputable def cR (ds:List D) (r:Sl):Prop:=∃ n:Nat,ds=[.int (n:Nat)]/\n<=4/\r=.d (.lst ((alW n).map rwQ))
theorem vg {r:List Rat} (k:Nat) (hk:k < [D.int (-1),D.int 0,D.int 1].length):[D.int (-1),D.int 0,D.int 1][k]=.int ((k:Nat) - 1):=by
 match k,hk with
 | 0,_=>rfl
 | 1,_=>rfl
 | 2,_=>rfl
section
variable {P:Program} {w:World} {K:PySem.W.Frag} {mg:Str->Option Value} {base:Heap} {k:Nat} {f:Addr} {fd:FuncData} {qual:Str}
set_option maxHeartbeats 1000000 in
theorem hW (F:Fun K "_law_all_rows" qual (top 54) f fd) (hb:∀ x ∈ ao,mg x=none):aN P w K mg base CX0 (k + 1) f fd ["_law_many"] (spD K cR):=by
 refine fnD F dZ hb (by rintro _ _ ⟨_,rfl,_⟩; rfl) ?_
 rintro _ _ ⟨n,rfl,n4,rfl⟩ cdv A outer s H E b
 have nd:=dZ.nd
 refine az 1 nd (aR (bJ (ab (aR (bJ af)) af))) ?_
 refine bI 2 (λi τ=>∃ s2 s3 s4,τ=[.d (.int (n:Nat)),.d (.lst ((alW i).map rwQ)),s2,s3,s4]) b nd (c8 b (aa 0) (by omega) (by omega)) cY ⟨.un,.un,.un,rfl⟩ (λi hi τ h=>?_) λτ h=>?_
 · obtain ⟨s2,s3,s4,rfl⟩:=h
   have hi:i < n:=by rw [aw] at hi; omega
   have l1:=gd i
   have l2:3 ^ i<=3 ^ 4:=Nat.pow_le_pow_right (by decide) (by omega)
   refine az 3 nd (bJ af) ?_
   refine bI 4 (g:=λl=>rwQ ((alW i).getD l [])) (λl τ=>∃ s4,τ=[.d (.int (n:Nat)),.d (.lst ((alW i).map rwQ)),.d (.int (i:Nat)),.o ((((alW i).take l).flatMap alV).map rwQ),s4]) b nd (aS (aa 1)) (bN (f:=rwQ) (xs:=alW i) []) ⟨s4,rfl⟩ (λl hl τ h=>?_) λτ h=>?_
   · obtain ⟨s4',rfl⟩:=h
     have hl:l < (alW i).length:=by simpa using hl
     have len1:(((alW i).take l).flatMap alV).length<=3 * 81:=by
       have e:∀ l:List (List Rat),(l.flatMap alV).length=l.length * 3:=λl=>by
         induction l with
         | nil=>rfl
         | cons x l ih=>rw [List.flatMap_cons,List.length_append,ih]; show 3 + _=_; rw [List.length_cons]; omega
       rw [e,List.length_take]
       omega
     have ok:=jN i _ (a7 (d:=[]) hl)
     generalize hrow:(alW i).getD l []=row at ok ⊢
     refine sk 3 (bL (cmp 0 (g:=λk=>.int ((k:Nat) - 1)) (f:=λk=>rwQ (row++[((((k:Nat):Int) - 1:Int):Rat)])) b (uU (bO (ab (fL ae) (ab ae (ab ae af))))) (vg (r:=row)) (by decide) λk hk s0 H0 fp=>?_)) ?_ (aO ⟨.d (rwQ row),?_⟩)
     · have e:rwQ (row++[((((k:Nat):Int) - 1:Int):Rat)])=.lst ((row.map frD)++[.tup [.int (((k:Nat):Int) - 1),.int 1]]):=by
         unfold rwQ
         rw [List.map_append,List.map_cons,lX]
         rfl
       rw [e]
       exact aR (kJ (aa 1) (aR (bJ (ab (bO (ab (aa 0) (ab ae af))) af))) (by rw [List.length_map,ok.1]; show _ + 1 < _; omega))
     · rw [List.length_map,List.length_map,List.length_range]
       show _ + 3 < _
       omega
     · rw [take_snoc [] hl,hrow,List.flatMap_append,List.map_append]
       rfl
   · obtain ⟨s4',rfl⟩:=h
     refine rj 3 (az 1 nd (aa 3) (aO ⟨.d (.int (i:Nat)),.d (.lst ((alW (i + 1)).map rwQ)),s4',?_⟩))
     rw [List.length_map,List.take_of_length_le (Nat.le_refl _)]
     rfl
 · obtain ⟨s2,s3,s4,rfl⟩:=h
   rw [aw,Int.toNat_natCast]
   exact aH (aa 1) rfl
end
noncomputable def tbC (M:List (List Rat)) (C:Nat) (x:List Rat):List Col:=(List.range C).map λj=>((λi=>qM M i j),x.getD j 0)
theorem qv {L:List Nat} {C:Nat} (h:L.Sublist (List.range C)):Inc L.length (λc=>L.getD c 0)/\∀ c,c < L.length->L.getD c 0 < C:=by
 have p:L.Pairwise (· < ·):=List.pairwise_lt_range.sublist h
 constructor
 · intro i hi
   have:=List.pairwise_iff_getElem.mp p i (i + 1) (by omega) (by omega) (by omega)
   show L.getD i 0 < L.getD (i + 1) 0
   rw [show L.getD i 0=L[i] by simp [show i < L.length by omega],show L.getD (i + 1) 0=L[i + 1] by simp [hi]]
   exact this
 · intro c hc
   rw [show L.getD c 0=L[c] by simp [hc]]
   exact List.mem_range.mp (h.subset (List.getElem_mem hc))
theorem tL {R C:Nat} {M:List (List Rat)} (h:∀ k a b,1<=k->a + k<=R->b + k<=C->0 < sld (qM M) a b k) (x:List Rat):Stp R (tbC M C x):=by
 intro S hS ρ hi hm
 obtain ⟨L,hL,rfl⟩:=List.sublist_map_iff.mp hS
 obtain ⟨i1,i2⟩:=qv hL
 rw [List.length_map] at hi hm
 have:=tp (M:=qM M) (n:=R) (m:=C) (λk a b h1 h2 h3 _=>h k a b h1 h2 h3) hi i1 (λh=>hm _ (by omega)) λh=>i2 _ (by omega)
 have e:ie ρ (L.map λj=>((λi=>qM M i j),x.getD j 0))=mi (qM M) L.length ρ λc=>L.getD c 0:=by
   unfold ie mi
   rw [List.length_map]
   refine aj λr _ c hc=>?_
   simp [hc]
 rw [e]
 exact this
theorem sf {M:List (List Rat)} {C:Nat} {x:List Rat} (h:x.length=C):(tbC M C x).map (·.2)=x:=by
 unfold tbC
 rw [List.map_map]
 refine List.ext_getElem (by simp [h]) λi h1 h2=>by simp [h2]
theorem qg {M:List (List Rat)} {C:Nat} {x:List Rat} (i:Nat):bC (tbC M C x) i=ax (λj=>qM M i j * x.getD j 0) C:=by
 rw [gX,show (tbC M C x).length=C by simp [tbC]]
 refine av λj hj=>?_
 unfold tbC
 simp only [List.getD_eq_getElem?_getD,List.getElem?_map,List.getElem?_range hj,Option.map_some,Option.getD_some]
 rw [Rat.mul_comm]
theorem jR {s t:Nat->Int}:∀ n,(∀ k,k < n->s k=t k)->mcS s n=mcS t n
 | 0,_=>rfl
 | n + 1,h=>by rw [mcS,mcS,jR n λk hk=>h k (by omega),h n (by omega)]
theorem qu {R C:Nat} {M:List (List Rat)} {x:List Rat} (r1:1<=R) (h:x.length=C) (s:Stp R (tbC M C x)) (hn:nzS x ≠ []):(mcS (λk=>sgR ((bhQ R C M x).getD k 0)) R).1<=chg (nzS x):=by
 have m:=qU s r1 (by rw [sf h]; exact hn)
 rw [sf h] at m
 rw [jR (t:=λk=>sgR (bC (tbC M C x) k)) R λk hk=>by
   show sgR ((bhQ R C M x).getD k 0)=_
   rw [qg]
   unfold bhQ
   simp [hk]]
 exact m
theorem wm {x:List Rat}:(nzS x).getD 0 0=0 ↔ nzS x=[]:=by
 constructor
 · intro h
   cases e:nzS x with
   | nil=>rfl
   | cons a l=>
     rw [e] at h
     have:a ∈ nzS x:=by rw [e]; exact List.mem_cons_self ..
     unfold nzS at this
     have:=(List.mem_filter.mp this).2
     exact absurd (show a=0 from h) (by simpa using this)
 · intro h
   rw [h]
   rfl
section
variable {P:Program} {w:World} {K:PySem.W.Frag} {mg:Str->Option Value} {base:Heap} {k:Nat} {f:Addr} {fd:FuncData} {qual:Str}
end
noncomputable def fD (ds:List D) (r:Sl):Prop:=∃ (R C:Nat) (M:List (List Rat)) (x:List Rat),ds=[tbQ M,rwQ x]/\Tq R C M/\x.length=C/\(∀ r ∈ M,∀ q ∈ r,Qs 7 133 q)/\(∀ q ∈ x,Qs 7 133 q)/\Stp R (tbC M C x)/\r=.d (.bl true)
section
variable {P:Program} {w:World} {K:PySem.W.Frag} {mg:Str->Option Value} {base:Heap} {k:Nat} {f:Addr} {fd:FuncData} {qual:Str}
theorem k3 (F:Fun K "_law_holds" qual (top 55) f fd) (hb:∀ x ∈ ao,mg x=none) (c_behind:Cal P w K mg base k "behind" gi) (c_most_changes:Cal P w K mg base k "most_changes" bZ) (c_least_changes:Cal P w K mg base k "least_changes" bR) (c_l_first:Cal P w K mg base k "_law_first" fv) (c_l_most:Cal P w K mg base k "_law_most" gR) (c_l_least:Cal P w K mg base k "_law_least" fo):aN P w K mg base CX0 (k + 1) f fd ["_law_table","_law_row_here"] (spD K fD):=by
 refine fnD F gQ hb (by rintro _ _ ⟨_,_,_,_,rfl,_⟩; rfl) ?_
 rintro _ _ ⟨R,C,M,x,rfl,t,hx,q1,q2,st,rfl⟩ cdv A outer s H E b
 have nd:=gQ.nd
 have r1:=t.r1
 have r7:=t.r7
 have c1:=t.c1
 have c7:=t.c7
 refine b9 (aU (x_call b c_l_first (ab (aa 1) af) ⟨x,rfl,rfl⟩) ae dQ) (λh=>?_) λh=>?_
 · exact aH nN rfl
 · have hn:nzS x ≠ []:=λz=>of_decide_eq_false h (wm.mpr z)
   have le:=qu r1 hx st hn
   have ly:(bhQ R C M x).length=R:=by simp [bhQ]
   refine az 2 nd (aR (x:=rwQ (bhQ R C M x)) (x_call b c_behind (ab (aa 0) (ab (aa 1) af)) ⟨R,C,7,133,M,x,rfl,t,hx,q1,q2,by omega,by omega,by decide,rfl⟩)) ?_
   refine az 3 nd (x_call b c_most_changes (ab (aa 2) af) ⟨_,rfl,by omega,by omega,rfl⟩) ?_
   refine az 4 nd (x_call b c_least_changes (ab (aa 1) af) ⟨x,rfl,by omega,by omega,rfl⟩) ?_
   refine aH (iM (cc (aa 3) (x_call b c_l_most (ab (aa 2) af) ⟨_,rfl,by omega,rfl⟩) dQ) λh=>(iM (cc (aa 4) (x_call b c_l_least (ab (aa 1) af) ⟨x,rfl,by omega,rfl⟩) dQ) λh=>(kC (cc (aa 3) (aa 4) uD)))) ?_
   rw [ly,decide_eq_true rfl,decide_eq_true rfl,decide_eq_true (show ((mcS (λk=>sgR ((bhQ R C M x).getD k 0)) R).1:Int)<=(chg (nzS x):Nat) by omega)]
   rfl
end
theorem uh {M:List (List Rat)} {ss:List Int} {i j:Nat} (hi:i < M.length) (hj:j < (M.getD i []).length):((whM M ss).getD i []).getD j 0=((M.getD i []).getD j 0).num * (ss.getD i 0 / (((M.getD i []).getD j 0).den:Nat)):=by
 have e:(whM M ss).getD i []=whR (M.getD i []) (ss.getD i 0):=by unfold whM; simp [hi]
 rw [e]
 unfold whR
 rw [List.getD_eq_getElem?_getD,List.getElem?_map,List.getElem?_eq_getElem hj,List.getD_eq_getElem?_getD (l:=M.getD i []),List.getElem?_eq_getElem hj]
 rfl
theorem uk {R C a b k:Nat} {M:List (List Rat)} (t:Tq R C M) (ha:a + k<=R) (hb:b + k<=C):0 < sld (dtM (whM M (M.map scL))) a b k ↔ 0 < sld (qM M) a b k:=by
 have e:sld (dtM (whM M (M.map scL))) a b k=eW (λr=>((scL (M.getD (a + r) []):Int):Rat)) k * sld (qM M) a b k:=by
   unfold sld mi
   rw [<- dN (n:=k) _ (λr c=>qM M (a + r) (b + c)) k (Nat.le_refl _)]
   refine aj λi hi j hj=>?_
   rw [if_pos hi]
   have hi':a + i < M.length:=by rw [t.len]; omega
   have hj':b + j < (M.getD (a + i) []).length:=by rw [t.at_ (by omega)]; omega
   have sc:(M.map scL).getD (a + i) 0=scL (M.getD (a + i) []):=by simp [hi']
   unfold dtM
   rw [uh hi' hj',sc,uF ((cq _).2 _ (a7 hj')),Rat.mul_comm]
   rfl
 have p:=bt (s:=λr=>((scL (M.getD (a + r) []):Int):Rat)) k λi _=>(show ((0:Int):Rat) < _ from Rat.intCast_lt_intCast.mpr (cq _).1)
 rw [e]
 constructor
 · exact jA p
 · exact λh=>Rat.mul_pos p h
theorem j6 (x:Rat) (b:Nat):∀ c,x ^ (b + c)=x ^ b * x ^ c
 | 0=>by rw [Nat.add_zero,Rat.pow_zero,Rat.mul_one]
 | c + 1=>by rw [<- Nat.add_assoc,Rat.pow_succ,j6 x b c,Rat.pow_succ,Rat.mul_assoc]
noncomputable def dwL:List Int:=2 :: 5 :: List.replicate 14 3
noncomputable def dwP (c:Int):List Int:=nums c dwL
theorem gc (c:Int):(dwP c).length=16:=by unfold dwP; rw [hE]; rfl
theorem qO:∀ b ∈ dwL,0 < b:=by decide
theorem lS (c:Int) (i:Nat):0<=(dwP c).getD i 0/\(dwP c).getD i 0 < 5/\(1 < i->(dwP c).getD i 0 < 3):=by
 by_cases h:i < 16
 · have q:=jg (c:=c) (bs:=dwL) qO (i:=i) h
   have k:∀ i,i < 16->dwL.getD i 0<=5/\(1 < i->dwL.getD i 0=3):=by decide
   obtain ⟨k1,k2⟩:=k i h
   refine ⟨q.1,?_,λz=>?_⟩
   · exact Int.lt_of_lt_of_le q.2 k1
   · have:=q.2
     rw [k2 z] at this
     exact this
 · have e:(dwP c).getD i 0=0:=by rw [List.getD_eq_getElem?_getD,List.getElem?_eq_none (by rw [gc]; omega)]; rfl
   rw [e]
   exact ⟨by decide,by decide,λ_=>by decide⟩
noncomputable def dwX (ps:List Int):Nat->Int
 | 0=>1 + ps.getD 1 0
 | i + 1=>dwX ps i + 1 + ps.getD (2 + i) 0
noncomputable def dwY (ps:List Int) (j:Nat):Int:=((List.range (j + 1)).map λt=>1 + ps.getD (9 + t) 0).sum
theorem kx (ps:List Int) (j:Nat):dwY ps (j + 1)=dwY ps j + (1 + ps.getD (9 + (j + 1)) 0):=by
 unfold dwY
 rw [List.range_succ,List.map_append,List.sum_append]
 simp
noncomputable def dwT (ps:List Int) (i j:Nat):Int:=if ps.getD 0 0=1 then 1 else dwX ps i ^ j
noncomputable def dwB (ps:List Int) (i j:Nat):Int:=if ps.getD 0 0=1 then dwX ps i + dwY ps j + (1 + ps.getD 15 0) else 1 + ps.getD 2 0
noncomputable def dwE (ps:List Int) (i j:Nat):Rat:=((dwT ps i j:Int):Rat) / ((dwB ps i j:Int):Rat)
noncomputable def dwM (ps:List Int) (R C:Nat):List (List Rat):=(List.range R).map λi=>(List.range C).map (dwE ps i)
structure Dp (ps:List Int):Prop where
 len:ps.length=16
 lt:∀ i,0<=ps.getD i 0/\ps.getD i 0 < 5/\(1 < i->ps.getD i 0 < 3)
section
variable {ps:List Int} (h:Dp ps)
include h
theorem Dp.X (i:Nat):1<=dwX ps i/\dwX ps i<=5 + 3 * (i:Nat):=by
 induction i with
 | zero=>have:=h.lt 1; show 1<=1 + ps.getD 1 0/\1 + ps.getD 1 0<=_; omega
 | succ i ih=>have:=h.lt (2 + i); have:=(h.lt (2 + i)).2.2 (by omega); show 1<=dwX ps i + 1 + ps.getD (2 + i) 0/\dwX ps i + 1 + ps.getD (2 + i) 0<=_; omega
theorem Dp.Xs (i:Nat):dwX ps i < dwX ps (i + 1):=by
 have:=h.lt (2 + i)
 show _ < dwX ps i + 1 + ps.getD (2 + i) 0
 omega
theorem Dp.Y (j:Nat):1<=dwY ps j/\dwY ps j<=3 + 3 * (j:Nat):=by
 induction j with
 | zero=>
   have:=h.lt 9
   have:=(h.lt 9).2.2 (by decide)
   have e:dwY ps 0=1 + ps.getD 9 0:=by simp [dwY]
   rw [e]
   omega
 | succ j ih=>have:=h.lt (9 + (j + 1)); have:=(h.lt (9 + (j + 1))).2.2 (by omega); rw [kx]; omega
theorem Dp.Ys (j:Nat):dwY ps j < dwY ps (j + 1):=by
 have:=h.lt (9 + (j + 1))
 rw [kx]
 omega
theorem Dp.B (i j:Nat) (hi:i < 7) (hj:j < 7):0 < dwB ps i j/\dwB ps i j < 128:=by
 have h1:=h.X i
 have h2:=h.Y j
 have h3:=h.lt 15
 have h4:=h.lt 2
 unfold dwB
 split <;> omega
theorem Dp.pw (i:Nat) (hi:i < 7):∀ j,j<=7->1<=dwX ps i ^ j/\dwX ps i ^ j<=23 ^ j
 | 0,_=>by rw [Int.pow_zero,Int.pow_zero]; exact ⟨Int.le_refl _,Int.le_refl _⟩
 | j + 1,hj=>by
   obtain ⟨a,b⟩:=Dp.pw i hi j (by omega)
   obtain ⟨c,d⟩:=h.X i
   rw [Int.pow_succ,Int.pow_succ]
   constructor
   · have:=Int.mul_le_mul a c (by decide) (by omega)
     simpa using this
   · exact Int.mul_le_mul b (by omega) (by omega) (Int.le_trans (by decide) (Int.le_trans a b))
theorem Dp.qs {R C:Nat} (r7:R<=7) (c7:C<=7):∀ r ∈ dwM ps R C,∀ x ∈ r,Qs 7 133 x:=λr hr x hx=>by
 unfold dwM at hr
 obtain ⟨i,hi,rfl⟩:=List.mem_map.mp hr
 obtain ⟨j,hj,rfl⟩:=List.mem_map.mp hx
 have hi:=List.mem_range.mp hi
 have hj:=List.mem_range.mp hj
 obtain ⟨b1,b2⟩:=h.B i j (by omega) (by omega)
 refine Qs.of b1 (Rat.div_mul_cancel (kY b1)).symm (by unfold Bd; omega) ?_
 unfold dwT
 split
 · decide
 · obtain ⟨p1,p2⟩:=h.pw i (by omega) j (by omega)
   have:(23:Int) ^ j<=23 ^ 7:=by
     have:=Nat.pow_le_pow_right (n:=23) (by decide) (show j<=7 by omega)
     exact_mod_cast this
   have:(23:Int) ^ 7 < 2 ^ 133:=by decide
   omega
theorem Dp.tq {R C:Nat} (r1:1<=R) (r7:R<=7) (c1:1<=C) (c7:C<=7):Tq R C (dwM ps R C):=⟨r1,r7,c1,c7,by simp [dwM],λr hr=>by
 unfold dwM at hr
 obtain ⟨i,_,rfl⟩:=List.mem_map.mp hr
 simp⟩
theorem pX {f:Nat->Int} (s:∀ i,f i < f (i + 1)):∀ i j,i < j->((f i:Int):Rat) < ((f j:Int):Rat):=λi j hij=>by
 refine Rat.intCast_lt_intCast.mpr ?_
 obtain ⟨d,rfl⟩:∃ d,j=i + d + 1:=⟨j - i - 1,by omega⟩
 clear hij
 induction d with
 | zero=>exact s i
 | succ d ih=>exact Int.lt_trans ih (s _)
theorem Dp.sd {R C k a b:Nat} (ha:a + k<=R) (hb:b + k<=C):0 < sld (qM (dwM ps R C)) a b k:=by
 have e:sld (qM (dwM ps R C)) a b k=det k λr c=>dwE ps (a + r) (b + c):=by
   unfold sld mi
   refine aj λr hr c hc=>?_
   unfold qM dwM
   simp [show a + r < R by omega,show b + c < C by omega]
 rw [e]
 unfold dwE dwT dwB
 by_cases q:ps.getD 0 0=1
 · simp only [if_pos q]
   have:=p8 k (λr=>((dwX ps (a + r):Int):Rat)) (λc=>((dwY ps (b + c) + (1 + ps.getD 15 0):Int):Rat)) (λi j hij=>pX h (f:=λr=>dwX ps (a + r)) (λi=>h.Xs (a + i)) i j hij) (λi j hij=>pX h (f:=λc=>dwY ps (b + c) + (1 + ps.getD 15 0)) (λi=>by have:=h.Ys (b + i); show _ < dwY ps (b + i + 1) + _; omega) i j hij) λi j=>by
     have h1:=(h.X (a + i)).1
     have h2:=(h.Y (b + j)).1
     have h3:=h.lt 15
     rw [<- Rat.intCast_add]
     exact (show ((0:Int):Rat) < _ from Rat.intCast_lt_intCast.mpr (by omega))
   have e2:det k (λr c=>((1:Int):Rat) / ((dwX ps (a + r) + dwY ps (b + c) + (1 + ps.getD 15 0):Int):Rat))=det k λr c=>1 / (((dwX ps (a + r):Int):Rat) + ((dwY ps (b + c) + (1 + ps.getD 15 0):Int):Rat)):=aj λr _ c _=>by
     rw [Int.add_assoc,Rat.intCast_add (dwX ps (a + r))]
     rfl
   rw [e2]
   exact this
 · simp only [if_neg q]
   have b0:(0:Int) < 1 + ps.getD 2 0:=by have:=h.lt 2; omega
   have bq:(0:Rat) < ((1 + ps.getD 2 0:Int):Rat):=(show ((0:Int):Rat) < _ from Rat.intCast_lt_intCast.mpr b0)
   have bi:(0:Rat) < ((1 + ps.getD 2 0:Int):Rat)⁻¹:=Rat.inv_pos.mpr bq
   have v:=vdm k (λr=>((dwX ps (a + r):Int):Rat)) (λi j hij=>pX h (f:=λr=>dwX ps (a + r)) (λi=>h.Xs (a + i)) i j hij)
   have e2:det k (λr c=>((dwX ps (a + r) ^ (b + c):Int):Rat) / ((1 + ps.getD 2 0:Int):Rat))=det k λr c=>((dwX ps (a + r):Int):Rat) ^ b * ((1 + ps.getD 2 0:Int):Rat)⁻¹ * (1 * ((dwX ps (a + r):Int):Rat) ^ c):=aj λr _ c _=>by
     rw [Rat.div_def,Rat.intCast_pow,j6]
     grind
   rw [e2,lD k (λr=>((dwX ps (a + r):Int):Rat) ^ b * ((1 + ps.getD 2 0:Int):Rat)⁻¹) (λ_=>1) λr c=>((dwX ps (a + r):Int):Rat) ^ c]
   refine Rat.mul_pos (bt k λr _=>Rat.mul_pos ?_ bi) (Rat.mul_pos (bt k λ_ _=>(by decide:(0:Rat) < 1)) v)
   have x0:(0:Rat) < ((dwX ps (a + r):Int):Rat):=(show ((0:Int):Rat) < _ from Rat.intCast_lt_intCast.mpr (by have:=(h.X (a + r)).1; omega))
   exact Rat.pow_pos x0
end
section
variable {P:Program} {w:World} {K:PySem.W.Frag} {mg:Str->Option Value} {base:Heap} {k:Nat} {f:Addr} {fd:FuncData} {qual:Str}
end
noncomputable def dr4 (n:Nat):Nat:=if 4 < n then 4 else n
noncomputable def d4R (c:Int) (g:Bool):Nat:=if g then szR (rsZ c 47829690) else dr4 (szR (rsZ c 47829690))
noncomputable def d4C (c:Int) (g:Bool):Nat:=if g then szC (rsZ c 47829690) else dr4 (szC (rsZ c 47829690))
theorem sj (c:Int) (g:Bool):1<=d4R c g/\d4R c g<=7/\1<=d4C c g/\d4C c g<=7:=by
 have:=rV (rsZ c 47829690)
 unfold d4R d4C dr4
 split <;> (try split) <;> (try split) <;> omega
noncomputable def fG (ds:List D) (r:Sl):Prop:=∃ (c:Int) (g:Bool),ds=[.int c,.bl g]/\r=.o ((dwM (dwP c) (d4R c g) (d4C c g)).map rwQ)
theorem ui {ps:List Int} {j:Nat}:Hy.cutD (ps.map D.int) (some 9) (some (10 + (j:Int)))=((ps.take (10 + j)).drop 9).map D.int:=by
 rw [show (10:Int) + (j:Int)=((10 + j:Nat):Int) by omega,show (9:Int)=((9:Nat):Int) from rfl,Hy.lU,List.map_drop,List.map_take]
noncomputable def dwS (c:Int) (g:Bool) (ps:List Int) (R C i:Nat) (s6 s8 s9 s10 s11 s12:Sl):List Sl:=[.d (.int c),.d (.bl g),.d (.lst (ps.map D.int)),.d (.int (R:Nat)),.d (.int (C:Nat)),.o ((dwM ps i C).map rwQ),s6,.d (.int (1 + ps.getD 15 0)),s8,s9,s10,s11,s12]
section
variable {P:Program} {w:World} {K:PySem.W.Frag} {mg:Str->Option Value} {base:Heap} {k:Nat} {f:Addr} {fd:FuncData} {qual:Str}
set_option maxHeartbeats 4000000 in
theorem kO (F:Fun K "_law_drawn" qual (top 53) f fd) (hb:∀ x ∈ ao,mg x=none) (c_l_numbers:Cal P w K mg base k "_law_numbers" bM) (c_l_size:Cal P w K mg base k "_law_size" gk) (c_l_rest:Cal P w K mg base k "_law_rest" gG) (c_l_made:Cal P w K mg base k "_law_made" eK):aN P w K mg base CX0 (k + 1) f fd ["_law_cell_here","_law_great"] (spD K fG):=by
 refine fnD F gD hb (by rintro _ _ ⟨_,_,rfl,_⟩; rfl) ?_
 rintro _ _ ⟨c,g,rfl,rfl⟩ cdv A outer s H E b
 have nd:=gD.nd
 refine az 2 nd (aR (x_call b c_l_numbers (ab (aa 0) (ab (aR (kJ (aR (bJ (ab ae (ab ae af)))) (aR (bL (cmp 0 (f:=λ_=>.int 3) b (c8 b ae (by omega) (by omega)) cY (by rw [aw]; omega) λi hi s0 H0 fp=>ae))) (by rw [List.length_map,List.length_range,aw]; decide))) af)) ⟨c,dwL,?_,by decide,λx hx=>?_,rfl⟩)) ?_
 · rfl
 · have k:∀ b ∈ dwL,0 < b/\b < 20:=by decide
   exact qE (k x hx).1 (by have:=(k x hx).2; omega)
 have dp:Dp (dwP c):=⟨gc c,lS c⟩
 obtain ⟨z1,z2,z3,z4⟩:=rV (rsZ c 47829690)
 refine tW (x_call b c_l_size (ab (x_call b c_l_rest (ab (aa 0) (ab ae af)) ⟨c,47829690,rfl,by decide,by decide,rfl⟩) af) ⟨_,rfl,rfl⟩) (vN b.calm (l5 3 nd (l5 4 nd tS))) ?_
 refine ko (M:=λτ=>τ=[.d (.int c),.d (.bl g),.d (.lst ((dwP c).map D.int)),.d (.int (d4R c g:Nat)),.d (.int (d4C c g:Nat)),.un,.un,.un,.un,.un,.un,.un,.un]) (cV (cX (aa 1))) (λh=>?_) (λh=>?_) λτ h=>?_
 · have h:g=false:=by simpa using h
   subst h
   have e1:(if (4:Int) < ((szR (rsZ c 47829690):Nat):Int) then (4:Int) else ((szR (rsZ c 47829690):Nat):Int))=((d4R c false:Nat):Int):=by show _=((dr4 _:Nat):Int); unfold dr4; split <;> split <;> omega
   have e2:(if (4:Int) < ((szC (rsZ c 47829690):Nat):Int) then (4:Int) else ((szC (rsZ c 47829690):Nat):Int))=((d4C c false:Nat):Int):=by show _=((dr4 _:Nat):Int); unfold dr4; split <;> split <;> omega
   refine az 3 nd (a5 b (ab (aa 3) (ab ae af)) (mq rfl)) ?_
   refine az 4 nd (a5 b (ab (aa 4) (ab ae af)) (mq rfl)) (aO ?_)
   rw [e1,e2]
   rfl
 · have h:g=true:=by simpa using h
   subst h
   exact aO rfl
 subst h
 obtain ⟨r1,r7,c1,c7⟩:=sj c g
 generalize d4R c g=R at r1 r7 ⊢
 generalize d4C c g=C at c1 c7 ⊢
 generalize dwP c=ps at dp ⊢
 have lp:=dp.len
 have pa:∀ i:Nat,i < 16->atI (ps.map D.int) (i:Int)=some (.int (ps.getD i 0)):=λi hi=>atR (by omega)
 refine az 5 nd (bJ af) ?_
 refine az 6 nd (aA ae (aP (aa 2) ae (aW (pa 1 (by decide)))) aT) ?_
 refine az 7 nd (aA ae (aP (aa 2) ae (aW (pa 15 (by decide)))) aT) ?_
 refine bI 8 (λi τ=>i<=R/\∃ s8 s9 s10 s11 s12,τ=dwS c g ps R C i (.d (.int (dwX ps i))) s8 s9 s10 s11 s12) b nd (c8 b (aa 3) (by omega) (by omega)) cY ⟨Nat.zero_le _,_,_,_,_,_,rfl⟩ (λi hi τ h=>?_) λτ h=>?_
 · obtain ⟨_,s8,s9,s10,s11,s12,rfl⟩:=h
   have hi:i < R:=by rw [aw] at hi; omega
   have hX:=dp.X i
   refine az 9 nd (bJ af) ?_
   refine az 10 nd ae ?_
   refine bI 11 (λj τ=>j<=C/\∃ s11,τ=dwS c g ps R C i (.d (.int (dwX ps i))) (.d (.int (i:Nat))) (.o ((List.range j).map λj=>.tup [.int (dwX ps i ^ j),.int (1 + ps.getD 2 0)])) (.d (.int (dwX ps i ^ j))) s11 s12) b nd (c8 b (aa 4) (by omega) (by omega)) cY ⟨Nat.zero_le _,s11,by rw [Int.pow_zero]; rfl⟩ (λj hj τ h=>?_) λτ h=>?_
   · obtain ⟨_,s11',rfl⟩:=h
     have hj:j < C:=by rw [aw] at hj; omega
     obtain ⟨p1,p2⟩:=dp.pw i (by omega) j (by omega)
     have p3:(23:Int) ^ j<=23 ^ 7:=by
       have:=Nat.pow_le_pow_right (n:=23) (by decide) (show j<=7 by omega)
       exact_mod_cast this
     have p4:(23:Int) ^ 7 < 2 ^ 40:=by decide
     refine my 9 (xs:=(List.range j).map λj=>.tup [.int (dwX ps i ^ j),.int (1 + ps.getD 2 0)]) (bO (ab (aa 10) (ab (aA ae (aP (aa 2) ae (aW (pa 2 (by decide)))) aT) af))) (by rw [List.length_map,List.length_range]; omega) ?_
     refine az 10 nd (aA (aa 10) (aa 6) (bP (mkL (by omega)))) (aO ⟨by omega,.d (.int (j:Nat)),?_⟩)
     rw [List.range_succ,List.map_append,Int.pow_succ]
     rfl
   · obtain ⟨_,s11',rfl⟩:=h
     rw [aw,Int.toNat_natCast]
     refine ko (M:=λτ=>∃ s12,τ=dwS c g ps R C i (.d (.int (dwX ps i))) (.d (.int (i:Nat))) (.d (.lst ((List.range C).map λj=>.tup [.int (dwT ps i j),.int (dwB ps i j)]))) (.d (.int (dwX ps i ^ C))) s11' s12) (aU (aP (aa 2) ae (aW (pa 0 (by decide)))) ae dQ) (λh=>?_) (λh=>?_) λτ h=>?_
     · have h:=of_decide_eq_true h
       refine hG 12 nd (s:=.d (.lst ((List.range C).map λj=>.int (dwY ps j)))) (cmp 0 (f:=λj=>.int (dwY ps j)) b (c8 b (aa 4) (by omega) (by omega)) cY (by rw [aw]; omega) λj hj s0 H0 fp=>?_) (.inr ?_) ?_
       · have hj:j < C:=by rw [aw] at hj; omega
         have lc:((ps.take (10 + j)).drop 9).length=j + 1:=by rw [List.length_drop,List.length_take,lp]; omega
         refine a5 (b.comp s0 H0 _ fp) (ab (aR (x:=.lst (((List.range (j + 1)).map λt=>1 + ps.getD (9 + t) 0).map .int)) (bL (cmp 0 (g:=λt=>.int (ps.getD (9 + t) 0)) (f:=λt=>.int (1 + ps.getD (9 + t) 0)) (b.comp s0 H0 _ fp) (aS (aR (vn (aa 1) (er ae) (er (aA ae (aa 0) aT))) (congrArg (λl=>some (D.lst l)) ui))) (λt ht=>?_) (by rw [List.length_map,lc]; omega) λt ht s1 H1 fp1=>(aA ae (aa 0) aT))) ?_) af) (so rfl _ rfl)
         · have ht:t < j + 1:=by rw [List.length_map,lc] at ht; exact ht
           simp [List.getElem_drop,List.getElem_take,List.getD_eq_getElem?_getD,show 9 + t < ps.length by omega]
         · rw [List.length_map,lc,List.map_map]
           rfl
       · rw [aw,Int.toNat_natCast]
       refine hG 9 nd (s:=.d (.lst ((List.range C).map λj=>.tup [.int (dwT ps i j),.int (dwB ps i j)]))) (cmp 0 (g:=λj=>.int (((List.range C).map (dwY ps)).getD j 0)) (f:=λj=>.tup [.int 1,.int (dwX ps i + ((List.range C).map (dwY ps)).getD j 0 + (1 + ps.getD 15 0))]) b (aS (aa 12)) (λj hj=>?_) (by rw [List.length_map,List.length_range]; omega) λj hj s0 H0 fp=>(bO (ab ae (ab (aA (aA (aa 1) (aa 0) aT) (aa 2) aT) af)))) (.inr ?_) (aO ⟨_,rfl⟩)
       · have hj:j < C:=by simpa using hj
         simp [hj]
       · rw [List.length_map,List.length_range]
         refine congrArg (λl=>Sl.d (D.lst l)) (List.map_congr_left λj hj=>?_)
         have hj:=List.mem_range.mp hj
         unfold dwT dwB
         rw [if_pos h,if_pos h]
         simp [hj]
     · have h:=of_decide_eq_false h
       refine rj 9 (x:=.lst ((List.range C).map λj=>.tup [.int (dwX ps i ^ j),.int (1 + ps.getD 2 0)])) (aO ⟨s12,?_⟩)
       have e:((List.range C).map λj=>D.tup [.int (dwT ps i j),.int (dwB ps i j)])=(List.range C).map λj=>D.tup [.int (dwX ps i ^ j),.int (1 + ps.getD 2 0)]:=List.map_congr_left λj _=>by
         unfold dwT dwB
         rw [if_neg h,if_neg h]
       rw [e]
       rfl
     · obtain ⟨s12',rfl⟩:=h
       refine my 5 (xs:=(dwM ps i C).map rwQ) (x:=rwQ ((List.range C).map (dwE ps i))) (aR (bL (cmp 0 (g:=λj=>.tup [.int (dwT ps i j),.int (dwB ps i j)]) (f:=λj=>frD (dwE ps i j)) b (aS (aa 9)) (λj hj=>?_) (by rw [List.length_map,List.length_range]; omega) λj hj s0 H0 fp=>?_)) ?_) (by rw [List.length_map]; simp [dwM]; omega) ?_
       · simp
       · have hj:j < C:=by simpa using hj
         obtain ⟨b1,b2⟩:=dp.B i j (by omega) (by omega)
         exact x_call (b.comp s0 H0 _ fp) c_l_made (ab (aP (aa 0) ae (a6 (aV (i:=0) rfl))) (ab (aP (aa 0) ae (a6 (aV (i:=1) rfl))) af)) ⟨_,_,dwE ps i j,rfl,b1,(show Bd 10 _ by unfold Bd; omega).mono (by decide),(Rat.div_mul_cancel (kY b1)).symm,rfl⟩
       · rw [List.length_map,List.length_range]
         unfold rwQ
         rw [List.map_map]
         rfl
       refine az 6 nd (aA (aA (aa 6) ae aT) (aP (aa 2) (aA ae (aa 8) aT) (aW (by rw [show (2:Int) + ((i:Nat):Int)=((2 + i:Nat):Int) by omega]; exact pa (2 + i) (by omega)))) aT) (aO ⟨by omega,.d (.int (i:Nat)),.d (.lst ((List.range C).map λj=>.tup [.int (dwT ps i j),.int (dwB ps i j)])),.d (.int (dwX ps i ^ C)),s11',s12',?_⟩)
       unfold dwS
       rw [show dwM ps (i + 1) C=dwM ps i C++[(List.range C).map (dwE ps i)] by unfold dwM; rw [List.range_succ,List.map_append]; rfl,List.map_append]
       rfl
 · obtain ⟨_,s8,s9,s10,s11,s12,rfl⟩:=h
   rw [aw,Int.toNat_natCast]
   exact jC 5 rfl
end
theorem m9 {c:Int} {R C:Nat} (r1:1<=R) (r7:R<=7) (c1:1<=C) (c7:C<=7):(fuO (whM (dwM (dwP c) R C) ((dwM (dwP c) R C).map scL)) R C 1).isNone=true:=by
 have dp:Dp (dwP c):=⟨gc c,lS c⟩
 have t:=dp.tq r1 r7 c1 c7
 have ok:=rw_ok t (dp.qs r7 c7) (by omega)
 rw [Option.isNone_iff_eq_none,qk,gA ok]
 intro k a b' _ h2 h3 _
 exact (uk t h2 h3).mpr (dp.sd h2 h3)
noncomputable def lwR (ns:List Int) (k C:Nat):List (List Rat):=(List.range 8).map λj=>rwL (ns.getD (k + (1 + j)) 0 + ((1 + j:Nat):Int)) C C
noncomputable def lwA (ns:List Int) (k C:Nat):List (List Rat):=if C < 5/\k < 2 then lwR ns k C++alW C else lwR ns k C
theorem qo {ns:List Int} {k C:Nat}:∀ r ∈ lwA ns k C,r.length=C/\∀ x ∈ r,Qs 7 133 x:=by
 have m:∀ x,Qs 3 133 x->Qs 7 133 x:=λx h=>⟨h.den.mono (by decide),h.val⟩
 have a:∀ r ∈ lwR ns k C,r.length=C/\∀ x ∈ r,Qs 7 133 x:=λr hr=>by
   unfold lwR at hr
   obtain ⟨j,_,rfl⟩:=List.mem_map.mp hr
   exact ⟨by simp [rwL],λx hx=>m x (tU x hx)⟩
 unfold lwA
 split
 · intro r hr
   rcases List.mem_append.mp hr with hr | hr
   · exact a r hr
   · obtain ⟨h1,h2⟩:=jN C r hr
     exact ⟨h1,λx hx=>m x (h2 x hx)⟩
 · exact a
theorem qG {ns:List Int} {k C:Nat}:(lwA ns k C).length<=100:=by
 have l8:(lwR ns k C).length=8:=by simp [lwR]
 unfold lwA
 split
 · rename_i h
   rw [List.length_append,l8,gd]
   have:3 ^ C<=3 ^ 4:=Nat.pow_le_pow_right (by decide) (by omega)
   omega
 · omega
noncomputable def mE (ds:List D) (r:Sl):Prop:=∃ ns:List Int,ns.length<=63/\ds=[.lst (ns.map .int)]/\r=.d (.bl true)
section
variable {P:Program} {w:World} {K:PySem.W.Frag} {mg:Str->Option Value} {base:Heap} {k:Nat} {f:Addr} {fd:FuncData} {qual:Str}
set_option maxHeartbeats 4000000 in
theorem sI (F:Fun K "law" qual (top 56) f fd) (hb:∀ x ∈ ao,mg x=none) (c_l_drawn:Cal P w K mg base k "_law_drawn" fG) (c_l_cell:Cal P w K mg base k "_law_cell" gf) (c_l_row:Cal P w K mg base k "_law_row" jo) (c_l_all_rows:Cal P w K mg base k "_law_all_rows" cR) (c_is_strict:Cal P w K mg base k "is_strict" dD) (c_l_holds:Cal P w K mg base k "_law_holds" fD):aN P w K mg base CX0 (k + 1) f fd ["_law_script"] (spD K mE):=by
 refine fnD F oE hb (by rintro _ _ ⟨_,_,rfl,_⟩; rfl) ?_
 rintro _ _ ⟨ns,hn,rfl,rfl⟩ cdv A outer s H E b
 have nd:=oE.nd
 have hN:∃ N:Nat,(if (if ((ns.map D.int).length:Int) < 6 then ((ns.map D.int).length:Int) else 6) > 1 then (if ((ns.map D.int).length:Int) < 6 then ((ns.map D.int).length:Int) else 6) else 1)=(N:Nat)/\N<=8:=by
   refine ⟨(if (if ((ns.map D.int).length:Int) < 6 then ((ns.map D.int).length:Int) else 6) > 1 then (if ((ns.map D.int).length:Int) < 6 then ((ns.map D.int).length:Int) else 6) else 1).toNat,?_,?_⟩
   · repeat' split
     all_goals omega
   · repeat' split
     all_goals omega
 obtain ⟨N,eN,N8⟩:=hN
 refine bI 1 (λi τ=>∃ s1 s2 s3 s4,τ=[.d (.lst (ns.map .int)),s1,s2,s3,s4]) b nd (c8 (n:=(N:Nat)) b (by rw [<- eN]; exact a5 b (ab ae (ab (a5 b (ab ae (ab (a5 b (ab (aa 0) af) dX) af)) (mq b.calm)) af)) (qa b.calm)) (by omega) (by omega)) cY ⟨_,_,_,_,rfl⟩ (λi hi τ h=>?_) λτ h=>?_
 · obtain ⟨s1,s2,s3,s4,rfl⟩:=h
   refine az 2 nd (aR (x_call b c_l_drawn (ab (x_call b c_l_cell (ab (aa 0) (ab (aa 1) af)) ⟨ns,i,rfl,rfl⟩) (ab (cc (aa 1) ae jU) af)) ⟨_,_,rfl,rfl⟩)) ?_
   obtain ⟨r1,r7,c1,c7⟩:=sj (ns.getD i 0) (decide ((i:Int) < 2))
   generalize d4R (ns.getD i 0) (decide ((i:Int) < 2))=R at r1 r7 ⊢
   generalize d4C (ns.getD i 0) (decide ((i:Int) < 2))=C at c1 c7 ⊢
   have dp:Dp (dwP (ns.getD i 0)):=⟨gc _,lS _⟩
   have t:=dp.tq r1 r7 c1 c7
   have q:=dp.qs r7 c7
   have fu:=m9 (c:=ns.getD i 0) r1 r7 c1 c7
   have st:=tL (R:=R) (C:=C) (M:=dwM (dwP (ns.getD i 0)) R C) λk a b' _ h2 h3=>dp.sd h2 h3
   generalize dwM (dwP (ns.getD i 0)) R C=M at t q fu st ⊢
   have e0:atI (M.map rwQ) 0=some (rwQ (M.getD 0 [])):=gp [] (i:=0) (by rw [t.len]; omega)
   refine az 3 nd (a5 b (ab (aP (aa 2) ae (aW e0)) af) (fN (n:=C) (by rw [List.length_map]; exact t.at_ (by omega)))) ?_
   refine hG 4 nd (s:=.d (.lst ((lwR ns i C).map rwQ))) (cmp 0 (g:=λj=>.int (1 + (j:Nat))) (f:=λj=>rwQ (rwL (ns.getD (i + (1 + j)) 0 + ((1 + j:Nat):Int)) C C)) b (gw b ae ae ⟨by omega,by omega,by omega,by omega⟩) kP (by rw [aw]; decide) λj hj s0 H0 fp=>?_) (.inr ?_) ?_
   · have ej:(1:Int) + ((j:Nat):Int)=((1 + j:Nat):Int):=by omega
     have ec:((i:Nat):Int) + (1 + ((j:Nat):Int))=((i + (1 + j):Nat):Int):=by omega
     exact aR (x_call (b.comp s0 H0 _ fp) c_l_row (ab (aA (x_call (b.comp s0 H0 _ fp) c_l_cell (ab (aa 2) (ab (aA (aa 1) (aa 0) aT) af)) ⟨ns,i + (1 + j),by rw [ec],rfl⟩) (aa 0) aT) (ab (aa 3) af)) ⟨_,C,by rw [ej],c1,c7,rfl⟩)
   · rw [aw]
     unfold lwR
     rw [List.map_map]
     rfl
   refine ko (M:=λτ=>τ=[.d (.lst (ns.map .int)),.d (.int (i:Nat)),.d (tbQ M),.d (.int (C:Nat)),.d (.lst ((lwA ns i C).map rwQ))]) (PW.pt (r9 (aU (aa 3) ae jU) λh=>(pQ (aU (aa 1) ae jU)))) (λh=>?_) (λh=>?_) λτ h=>?_
   · have h:C < 5/\i < 2:=by
       have:(C:Int) < 5/\(i:Int) < 2:=by simpa using h
       omega
     have l8:(lwR ns i C).length=8:=by simp [lwR]
     have l3:3 ^ C<=3 ^ 4:=Nat.pow_le_pow_right (by decide) (by omega)
     refine az 4 nd (aR (kJ (aa 4) (x_call b c_l_all_rows (ab (aa 3) af) ⟨C,rfl,by omega,rfl⟩) (by rw [List.length_map,List.length_map,l8,gd]; omega))) (aO ?_)
     unfold lwA
     rw [if_pos h,List.map_append]
     rfl
   · have h:¬ (C < 5/\i < 2):=by
       intro z
       have:(decide ((C:Int) < 5) && decide ((i:Int) < 2))=true:=by
         have:(C:Int) < 5/\(i:Int) < 2:=by omega
         simpa using this
       rw [this] at h
       cases h
     unfold lwA
     rw [if_neg h]
     exact aO rfl
   subst h
   have rows:=qo (ns:=ns) (k:=i) (C:=C)
   have lr:=qG (ns:=ns) (k:=i) (C:=C)
   generalize lwA ns i C=xs at rows lr ⊢
   refine fQ (PW.pt (k9 (aU (x_call b c_is_strict (ab (aa 2) af) ⟨R,C,7,133,M,rfl,t,q,by omega,rfl⟩) nN uv) λh=>(iI (cV (cX (a5 b (ab (aR (x:=.lst ((List.replicate xs.length true).map .bl)) (bL (cmp 0 (g:=λj=>rwQ (xs.getD j [])) (f:=λ_=>.bl true) b (aS (aa 4)) (bN (f:=rwQ) (xs:=xs) []) (by rw [List.length_map]; omega) λj hj s0 H0 fp=>(x_call (b.comp s0 H0 _ fp) c_l_holds (ab (aa 1) (ab (aa 0) af)) ?_))) ?_) af) (mz b.calm _ rfl))))))) ?_ (aO ⟨_,_,_,_,rfl⟩)
   · have hj:j < xs.length:=by simpa using hj
     obtain ⟨g1,g2⟩:=rows _ (a7 (d:=[]) hj)
     exact ⟨R,C,M,_,rfl,t,g1,q,g2,st _,rfl⟩
   · rw [List.length_map,List.map_replicate]
     exact congrArg (λl=>some (D.lst l)) (List.ext_getElem (by simp) λa h1 h2=>by simp)
   · rw [fu]
     have:(List.replicate xs.length true).all id=true:=List.all_eq_true.mpr λx hx=>(List.mem_replicate.mp hx).2
     rw [this]
     rfl
 · obtain ⟨s1,s2,s3,s4,rfl⟩:=h
   exact aH nN rfl
end
end K40
namespace K40
open PySem PySem.Spec PyProof.Rows L2 Hy
set_option maxHeartbeats 0 in
theorem all_mk {l:PySem.W.OpenLaw} {w:World} {K:PySem.W.Frag} {h:Heap} {mg:Str->Option Value} {fa f0 f1 f2 f3 f4 f5 f6 f7 f8 f9 f10 f11 f12 f13 f14 f15 f16 f17 f18 f19 f20 f21 f22 f23 f24 f25 f26 f27 f28 f29 f30 f31 f32 f33 f34 f35 f36 f37 f38 f39 f40 f41 f42 f43 f44:Addr} {t0:Tok} (X:K.In h) (G:h.Ns mainGlobals mg) (hfa:mg "law" = some (.ref fa))
   (h0:Dfn K "_law_numbers" (top 42) f0) (h1:Dfn K "_law_size" (top 47) f1) (h2:Dfn K "_law_rest" (top 43) f2) (h3:Dfn K "_law_divisor" (top 44) f3) (h4:Dfn K "_law_made" (top 45) f4) (h5:Dfn K "_law_drawn" (top 53) f5) (h6:Dfn K "_law_cell" (top 41) f6) (h7:Dfn K "_law_number" (top 46) f7) (h8:Dfn K "_law_row" (top 51) f8) (h9:Dfn K "_law_all_rows" (top 54) f9) (h10:Dfn K "is_short_list" (top 14) f10) (h11:Dfn K "is_whole" (top 7) f11) (h12:Dfn K "common_divisor" (top 9) f12) (h13:Dfn K "is_fraction" (top 8) f13) (h14:Dfn K "is_row" (top 15) f14) (h15:Dfn K "is_table" (top 16) f15) (h16:Dfn K "look_table" (top 17) f16) (h17:Dfn K "choices_of" (top 18) f17) (h18:Dfn K "along_last_row" (top 32) f18) (h19:Dfn K "one_row_more" (top 31) f19) (h20:Dfn K "all_determinants" (top 30) f20) (h21:Dfn K "whole_row" (top 23) f21) (h22:Dfn K "whole_rows" (top 24) f22) (h23:Dfn K "scale_of" (top 22) f23) (h24:Dfn K "first_under" (top 29) f24) (h25:Dfn K "is_strict" (top 28) f25) (h26:Dfn K "look_row" (top 34) f26) (h27:Dfn K "column_of" (top 20) f27) (h28:Dfn K "columns_of" (top 19) f28) (h29:Dfn K "in_lowest_terms" (top 10) f29) (h30:oM K "fraction" (top 11) f30 (1)) (h31:Dfn K "sum_of_products" (top 27) f31) (h32:Dfn K "product_row" (top 26) f32) (h33:Dfn K "product" (top 25) f33) (h34:Dfn K "behind" (top 39) f34) (h35:Dfn K "sign_of" (top 35) f35) (h36:Dfn K "signs_of" (top 36) f36) (h37:Dfn K "most_changes" (top 38) f37) (h38:Dfn K "least_changes" (top 37) f38) (h39:Dfn K "_law_sign" (top 48) f39) (h40:Dfn K "_law_first" (top 50) f40) (h41:Dfn K "_law_most" (top 52) f41) (h42:Dfn K "_law_least" (top 49) f42) (h43:Dfn K "_law_holds" (top 55) f43) (h44:Dfn K "law" (top 56) f44) (hz:nsL K ao) (z0:PySem.W.nsIn K mainGlobals "MOST" = some (some (.int 7 t0))) :
   ∃ fd:FuncData,(∀ (s:Shared) (v:Value),BindsTo s fd ⟨[v],[]⟩ [("_law_script",v)])/\∀ base:Heap,K.In base->base.Ns mainGlobals mg->aN l.prog w K mg base CX0 9 fa fd ["_law_script"] (spD K mE):=by
 have hb:=hz.none X G
 have y_MOST:∃ t,mg "MOST" = some (.int 7 t):=⟨_,PySem.W.mg_of X G z0⟩
 obtain ⟨a,⟨oc,od,kV,dc,pm,an,cd,ct,sl,l0,c⟩,r⟩:=h44
 cases hfa.symm.trans (PySem.W.mg_of X G a)
 refine ⟨PySem.W.fnOf "law" "law" (bH (top 56)) (bh (top 56)) (ag (top 56)) .none kV dc pm an cd ct,λs v=>.of_eq rfl,λbase _ _=>?_⟩
 have c_l_numbers:Cal l.prog w K mg base 1 "_law_numbers" bM:=h0.cal (ps:=["_law_cell_here","_law_bases"]) X G (λ_ _ _ _ _ _=>Hy.bd2 λ_ _=>rfl) λ_ F=>jv (k:=0) F hb
 have c_l_size:Cal l.prog w K mg base 2 "_law_size" gk:=h1.cal (ps:=["_law_cell_here"]) X G (λ_ _ _ _ _ _=>Hy.bd1 λ_=>rfl) λ_ F=>nG (k:=1) F hb c_l_numbers
 have c_l_rest:Cal l.prog w K mg base 1 "_law_rest" gG:=h2.cal (ps:=["_law_cell_here","_law_used"]) X G (λ_ _ _ _ _ _=>Hy.bd2 λ_ _=>rfl) λ_ F=>n8 (k:=0) F hb
 have c_l_divisor:Cal l.prog w K mg base 1 "_law_divisor" dC:=h3.cal (ps:=["_law_one","_law_other"]) X G (λ_ _ _ _ _ _=>Hy.bd2 λ_ _=>rfl) λ_ F=>jr (k:=0) F hb
 have c_l_made:Cal l.prog w K mg base 2 "_law_made" eK:=h4.cal (ps:=["_law_top","_law_bottom"]) X G (λ_ _ _ _ _ _=>Hy.bd2 λ_ _=>rfl) λ_ F=>nQ (k:=1) F hb c_l_divisor
 have c_l_drawn:Cal l.prog w K mg base 3 "_law_drawn" fG:=h5.cal (ps:=["_law_cell_here","_law_great"]) X G (λ_ _ _ _ _ _=>Hy.bd2 λ_ _=>rfl) λ_ F=>kO (k:=2) F hb (c_l_numbers.mono (by decide)) c_l_size (c_l_rest.mono (by decide)) c_l_made
 have c_l_cell:Cal l.prog w K mg base 1 "_law_cell" gf:=h6.cal (ps:=["_law_script","_law_k"]) X G (λ_ _ _ _ _ _=>Hy.bd2 λ_ _=>rfl) λ_ F=>oe (k:=0) F hb
 have c_l_number:Cal l.prog w K mg base 3 "_law_number" d8:=h7.cal (ps:=["_law_kind","_law_part"]) X G (λ_ _ _ _ _ _=>Hy.bd2 λ_ _=>rfl) λ_ F=>jQ (k:=2) F hb c_l_made
 have c_l_row:Cal l.prog w K mg base 4 "_law_row" jo:=h8.cal (ps:=["_law_cell_here","_law_many"]) X G (λ_ _ _ _ _ _=>Hy.bd2 λ_ _=>rfl) λ_ F=>ow (k:=3) F hb (c_l_numbers.mono (by decide)) c_l_number
 have c_l_all_rows:Cal l.prog w K mg base 1 "_law_all_rows" cR:=h9.cal (ps:=["_law_many"]) X G (λ_ _ _ _ _ _=>Hy.bd1 λ_=>rfl) λ_ F=>hW (k:=0) F hb
 have c_is_short_list:Cal l.prog w K mg base 1 "is_short_list" bj:=h10.cal (ps:=["thing"]) X G (λ_ _ _ _ _ _=>Hy.bd1 λ_=>rfl) λ_ F=>ft (k:=0) F hb y_MOST
 have c_is_whole:Cal l.prog w K mg base 1 "is_whole" cM:=h11.cal (ps:=["thing"]) X G (λ_ _ _ _ _ _=>Hy.bd1 λ_=>rfl) λ_ F=>kI (k:=0) F hb
 have c_common_divisor:Cal l.prog w K mg base 1 "common_divisor" aZ:=h12.cal (ps:=["one","other"]) X G (λ_ _ _ _ _ _=>Hy.bd2 λ_ _=>rfl) λ_ F=>eP (k:=0) F hb
 have c_is_fraction:Cal l.prog w K mg base 2 "is_fraction" cv:=h13.cal (ps:=["thing"]) X G (λ_ _ _ _ _ _=>Hy.bd1 λ_=>rfl) λ_ F=>gB (k:=1) F hb c_is_whole c_common_divisor
 have c_is_row:Cal l.prog w K mg base 3 "is_row" eV:=h14.cal (ps:=["thing"]) X G (λ_ _ _ _ _ _=>Hy.bd1 λ_=>rfl) λ_ F=>nq (k:=2) F hb (c_is_short_list.mono (by decide)) c_is_fraction
 have c_is_table:Cal l.prog w K mg base 4 "is_table" eF:=h15.cal (ps:=["thing"]) X G (λ_ _ _ _ _ _=>Hy.bd1 λ_=>rfl) λ_ F=>ky (k:=3) F hb (c_is_short_list.mono (by decide)) c_is_row
 have c_look_table:Cal l.prog w K mg base 5 "look_table" bx:=h16.cal (ps:=["thing"]) X G (λ_ _ _ _ _ _=>Hy.bd1 λ_=>rfl) λ_ F=>ig (k:=4) F hb c_is_table
 have c_choices_of:Cal l.prog w K mg base 1 "choices_of" cO:=h17.cal (ps:=["many","size"]) X G (λ_ _ _ _ _ _=>Hy.bd2 λ_ _=>rfl) λ_ F=>hV (k:=0) F hb
 have c_along_last_row:Cal l.prog w K mg base 1 "along_last_row" (bB l.prog w):=h18.cal (ps:=["known","row","columns"]) X G (λ_ _ _ _ _ _=>Hy.bd3 λ_ _ _=>rfl) λ_ F=>eO (k:=0) F hb
 have c_one_row_more:Cal l.prog w K mg base 2 "one_row_more" (b5 l.prog w):=h19.cal (ps:=["known","row","column_choices"]) X G (λ_ _ _ _ _ _=>Hy.bd3 λ_ _ _=>rfl) λ_ F=>fV (k:=1) F hb c_along_last_row
 have c_all_determinants:Cal l.prog w K mg base 3 "all_determinants" (bo l.prog w):=h20.cal (ps:=["rows"]) X G (λ_ _ _ _ _ _=>Hy.bd1 λ_=>rfl) λ_ F=>dU (k:=2) F hb (c_choices_of.mono (by decide)) c_one_row_more
 have c_whole_row:Cal l.prog w K mg base 1 "whole_row" cg:=h21.cal (ps:=["row","scale"]) X G (λ_ _ _ _ _ _=>Hy.bd2 λ_ _=>rfl) λ_ F=>jD (k:=0) F hb
 have c_whole_rows:Cal l.prog w K mg base 2 "whole_rows" bV:=h22.cal (ps:=["table","scales"]) X G (λ_ _ _ _ _ _=>Hy.bd2 λ_ _=>rfl) λ_ F=>ir (k:=1) F hb c_whole_row
 have c_scale_of:Cal l.prog w K mg base 2 "scale_of" b8:=h23.cal (ps:=["row"]) X G (λ_ _ _ _ _ _=>Hy.bd1 λ_=>rfl) λ_ F=>kg (k:=1) F hb c_common_divisor
 have c_first_under:Cal l.prog w K mg base 4 "first_under" cx:=h24.cal (ps:=["table","bound"]) X G (λ_ _ _ _ _ _=>Hy.bd2 λ_ _=>rfl) λ_ F=>hR (k:=3) F hb c_all_determinants (c_whole_rows.mono (by decide)) (c_scale_of.mono (by decide))
 have c_is_strict:Cal l.prog w K mg base 6 "is_strict" dD:=h25.cal (ps:=["table"]) X G (λ_ _ _ _ _ _=>Hy.bd1 λ_=>rfl) λ_ F=>i9 (k:=5) F hb c_look_table (c_first_under.mono (by decide))
 have c_look_row:Cal l.prog w K mg base 4 "look_row" bW:=h26.cal (ps:=["thing"]) X G (λ_ _ _ _ _ _=>Hy.bd1 λ_=>rfl) λ_ F=>jX (k:=3) F hb c_is_row
 have c_column_of:Cal l.prog w K mg base 1 "column_of" cj:=h27.cal (ps:=["table","j"]) X G (λ_ _ _ _ _ _=>Hy.bd2 λ_ _=>rfl) λ_ F=>jK (k:=0) F hb
 have c_columns_of:Cal l.prog w K mg base 2 "columns_of" cT:=h28.cal (ps:=["table"]) X G (λ_ _ _ _ _ _=>Hy.bd1 λ_=>rfl) λ_ F=>iB (k:=1) F hb c_column_of
 have c_in_lowest_terms:Cal l.prog w K mg base 2 "in_lowest_terms" bu:=h29.cal (ps:=["top","bottom"]) X G (λ_ _ _ _ _ _=>Hy.bd2 λ_ _=>rfl) λ_ F=>ei (k:=1) F hb c_common_divisor
 have c_fraction:Cal l.prog w K mg base 3 "fraction" eA:=h30.cal (ps:=["top","bottom"]) X G (λ_ _ _ _ _ _ _ _=>Hy.bd2 λ_ _=>⟨_,rfl,rfl⟩) λ_ F=>jP (k:=2) F hb c_in_lowest_terms (c_is_whole.mono (by decide))
 have c_sum_of_products:Cal l.prog w K mg base 1 "sum_of_products" bA:=h31.cal (ps:=["numbers","others"]) X G (λ_ _ _ _ _ _=>Hy.bd2 λ_ _=>rfl) λ_ F=>eo (k:=0) F hb
 have c_product_row:Cal l.prog w K mg base 4 "product_row" cw:=h32.cal (ps:=["row","whole_columns","scales"]) X G (λ_ _ _ _ _ _=>Hy.bd3 λ_ _ _=>rfl) λ_ F=>gy (k:=3) F hb (c_scale_of.mono (by decide)) (c_whole_row.mono (by decide)) c_fraction (c_sum_of_products.mono (by decide))
 have c_product:Cal l.prog w K mg base 6 "product" fy:=h33.cal (ps:=["one","other"]) X G (λ_ _ _ _ _ _=>Hy.bd2 λ_ _=>rfl) λ_ F=>kU (k:=5) F hb c_look_table (c_columns_of.mono (by decide)) (c_whole_rows.mono (by decide)) (c_scale_of.mono (by decide)) (c_product_row.mono (by decide))
 have c_behind:Cal l.prog w K mg base 7 "behind" gi:=h34.cal (ps:=["table","row"]) X G (λ_ _ _ _ _ _=>Hy.bd2 λ_ _=>rfl) λ_ F=>nU (k:=6) F hb (c_look_table.mono (by decide)) (c_look_row.mono (by decide)) (c_column_of.mono (by decide)) c_product
 have c_sign_of:Cal l.prog w K mg base 1 "sign_of" fm:=h35.cal (ps:=["number"]) X G (λ_ _ _ _ _ _=>Hy.bd1 λ_=>rfl) λ_ F=>lM (k:=0) F hb
 have c_signs_of:Cal l.prog w K mg base 2 "signs_of" cJ:=h36.cal (ps:=["row"]) X G (λ_ _ _ _ _ _=>Hy.bd1 λ_=>rfl) λ_ F=>kF (k:=1) F hb c_sign_of
 have c_most_changes:Cal l.prog w K mg base 5 "most_changes" bZ:=h37.cal (ps:=["row"]) X G (λ_ _ _ _ _ _=>Hy.bd1 λ_=>rfl) λ_ F=>fW (k:=4) F hb c_look_row (c_signs_of.mono (by decide))
 have c_least_changes:Cal l.prog w K mg base 5 "least_changes" bR:=h38.cal (ps:=["row"]) X G (λ_ _ _ _ _ _=>Hy.bd1 λ_=>rfl) λ_ F=>fI (k:=4) F hb c_look_row (c_signs_of.mono (by decide))
 have c_l_sign:Cal l.prog w K mg base 1 "_law_sign" df:=h39.cal (ps:=["_law_number_here"]) X G (λ_ _ _ _ _ _=>Hy.bd1 λ_=>rfl) λ_ F=>ng (k:=0) F hb
 have c_l_first:Cal l.prog w K mg base 2 "_law_first" fv:=h40.cal (ps:=["_law_row_here"]) X G (λ_ _ _ _ _ _=>Hy.bd1 λ_=>rfl) λ_ F=>lN (k:=1) F hb c_l_sign
 have c_l_most:Cal l.prog w K mg base 2 "_law_most" gR:=h41.cal (ps:=["_law_row_here"]) X G (λ_ _ _ _ _ _=>Hy.bd1 λ_=>rfl) λ_ F=>nF (k:=1) F hb c_l_sign
 have c_l_least:Cal l.prog w K mg base 2 "_law_least" fo:=h42.cal (ps:=["_law_row_here"]) X G (λ_ _ _ _ _ _=>Hy.bd1 λ_=>rfl) λ_ F=>k8 (k:=1) F hb c_l_sign
 have c_l_holds:Cal l.prog w K mg base 8 "_law_holds" fD:=h43.cal (ps:=["_law_table","_law_row_here"]) X G (λ_ _ _ _ _ _=>Hy.bd2 λ_ _=>rfl) λ_ F=>k3 (k:=7) F hb c_behind (c_most_changes.mono (by decide)) (c_least_changes.mono (by decide)) (c_l_first.mono (by decide)) (c_l_most.mono (by decide)) (c_l_least.mono (by decide))
 exact sI (k:=8) (lz l0 c r) hb (c_l_drawn.mono (by decide)) (c_l_cell.mono (by decide)) (c_l_row.mono (by decide)) (c_l_all_rows.mono (by decide)) (c_is_strict.mono (by decide)) c_l_holds
theorem walk {l:PySem.W.OpenLaw} {q:Program} {loose:List Str} {XP:(Str->Option Value)->Heap->Prop} {YP:World->Heap->Prop} {d:DefRec} {K:Params->PySem.W.Frag} (hn:l.most=some 63) (hdf:d.params.defaults=[])
   (hY:∀ (w:World) (h:Heap),YP w h->(K w.params).In h)
   (F:∀ (w:World) (mg:Str->Option Value) (fa:Addr) (h:Heap),(K w.params).In h->h.Ns mainGlobals mg->mg d.name=some (.ref fa) ->
     ∃ fd:FuncData,(∀ (s:Shared) (u:Value),BindsTo s fd ⟨[u],[]⟩ [("_law_script",u)])/\∀ base:Heap,(K w.params).In base->base.Ns mainGlobals mg->aN l.prog w (K w.params) mg base CX0 9 fa fd ["_law_script"] (spD (K w.params) mE)) :
   PySem.W.WalkO q loose XP YP l.row.toRowW d [] (λf vs=>PySem.call f vs):=
 L2.rd (n:=63) (k:=9) (x:="_law_script") (CX:=λ_=>CX0) (sp:=λw=>spD (K w.params) mE) hn (by decide) hdf ⟨rfl,by decide,by decide⟩ hY F
   (λw H a ns hl _ hS=>rn (λns h=>⟨ns,h,rfl,rfl⟩) H a ns hl hS) λ_ _ _ _ _ z=>z
end K40
open PySem PySem.W PyProof.Rows
namespace PySem.W.Fast
theorem tw10315155777486339917:True:=⟨⟩
theorem tw2595520230914516756:True:=⟨⟩
theorem tw3613341587374567254:True:=⟨⟩
theorem tw1927932439118479758:True:=⟨⟩
theorem tw5969478419130117457:True:=⟨⟩
theorem tw3245731547843874202:True:=⟨⟩
theorem tw11662305847203412672:True:=⟨⟩
theorem tw13965045701629521988:True:=⟨⟩
theorem tw15909469730134647197:True:=⟨⟩
theorem tw14068662865184466729:True:=⟨⟩
theorem tw6953283091518760352:True:=⟨⟩
theorem tw3558484357726246825:True:=⟨⟩
theorem tw1850080689396343859:True:=⟨⟩
theorem tw9356496074542526409:True:=⟨⟩
theorem tw10131104083460354260:True:=⟨⟩
theorem tw16930676930820681447:True:=⟨⟩
theorem tw8097889121434547933:True:=⟨⟩
theorem tw6669752488296547766:True:=⟨⟩
theorem tw13241887521597726641:True:=⟨⟩
theorem tw16837515828426503861:True:=⟨⟩
theorem tw10715872453113168841:True:=⟨⟩
theorem tw10272648601695462606:True:=⟨⟩
theorem tw4751924750922409961:True:=⟨⟩
theorem tw16152317922386207124:True:=⟨⟩
theorem tw7699931961200745792:True:=⟨⟩
theorem tw15136271405501421151:True:=⟨⟩
theorem tw18134590476989044416:True:=⟨⟩
theorem tw18356867140238698554:True:=⟨⟩
theorem tw11506338424172119744:True:=⟨⟩
theorem tw7630342400684130477:True:=⟨⟩
theorem tw12446369392023842602:True:=⟨⟩
theorem tw14284313620137355153:True:=⟨⟩
theorem tw1441654392992894352:True:=⟨⟩
theorem tw14309331669032567618:True:=⟨⟩
theorem tw8324048827540863977:True:=⟨⟩
theorem tw810447106658955435:True:=⟨⟩
theorem tw18249324610202284098:True:=⟨⟩
theorem tw17691430121612373084:True:=⟨⟩
theorem tw16446235678283243916:True:=⟨⟩
theorem tw15570888483244033619:True:=⟨⟩
theorem tw10860981030568574276:True:=⟨⟩
theorem tw9354672449471296643:True:=⟨⟩
theorem tw15870511629796545151:True:=⟨⟩
theorem tw10527207845998332408:True:=⟨⟩
theorem tw9648181408805565025:True:=⟨⟩
theorem tw2362456723583155766:True:=⟨⟩
theorem tw9012657973566720042:True:=⟨⟩
theorem tw12122005961109492327:True:=⟨⟩
theorem tw7742756597186062966:True:=⟨⟩
theorem tw970006157977724489:True:=⟨⟩
theorem tw10740132715488196990:True:=⟨⟩
theorem tw6766652399634837944:True:=⟨⟩
theorem tw15771542691504946883:True:=⟨⟩
theorem tw907688422224307734:True:=⟨⟩
theorem tw7267191712153044034:True:=⟨⟩
theorem tw13303365777923687409:True:=⟨⟩
theorem tw812090341153149659:True:=⟨⟩
end PySem.W.Fast
set_option maxRecDepth 100000 in
set_option maxHeartbeats 0 in
theorem PySem.Challenge.cw_signsmooth_k40_strict_ones_holds : PySem.Challenge.rw_signsmooth_k40_strict_ones.Holds := by
 w_on; o_law; k_head; (case hw=>w_witness2)
 k_fill
 refine K40.walk (l:=PySem.Challenge.rw_signsmooth_k40_strict_ones) rfl rfl (λw h Y=>PySem.W.kIn_of Y) ?F
 case F=>
   intro w mg fa h KX G hmg
   refine' K40.all_mk KX G hmg (.of ?_ ?_ ?_ ?_) (.of ?_ ?_ ?_ ?_) (.of ?_ ?_ ?_ ?_) (.of ?_ ?_ ?_ ?_) (.of ?_ ?_ ?_ ?_) (.of ?_ ?_ ?_ ?_) (.of ?_ ?_ ?_ ?_) (.of ?_ ?_ ?_ ?_) (.of ?_ ?_ ?_ ?_) (.of ?_ ?_ ?_ ?_) (.of ?_ ?_ ?_ ?_) (.of ?_ ?_ ?_ ?_) (.of ?_ ?_ ?_ ?_) (.of ?_ ?_ ?_ ?_) (.of ?_ ?_ ?_ ?_) (.of ?_ ?_ ?_ ?_) (.of ?_ ?_ ?_ ?_) (.of ?_ ?_ ?_ ?_) (.of ?_ ?_ ?_ ?_) (.of ?_ ?_ ?_ ?_) (.of ?_ ?_ ?_ ?_) (.of ?_ ?_ ?_ ?_) (.of ?_ ?_ ?_ ?_) (.of ?_ ?_ ?_ ?_) (.of ?_ ?_ ?_ ?_) (.of ?_ ?_ ?_ ?_) (.of ?_ ?_ ?_ ?_) (.of ?_ ?_ ?_ ?_) (.of ?_ ?_ ?_ ?_) (.of ?_ ?_ ?_ ?_) (.of ?_ ?_ ?_ ?_ ?_) (.of ?_ ?_ ?_ ?_) (.of ?_ ?_ ?_ ?_) (.of ?_ ?_ ?_ ?_) (.of ?_ ?_ ?_ ?_) (.of ?_ ?_ ?_ ?_) (.of ?_ ?_ ?_ ?_) (.of ?_ ?_ ?_ ?_) (.of ?_ ?_ ?_ ?_) (.of ?_ ?_ ?_ ?_) (.of ?_ ?_ ?_ ?_) (.of ?_ ?_ ?_ ?_) (.of ?_ ?_ ?_ ?_) (.of ?_ ?_ ?_ ?_) (.of ?_ ?_ ?_ ?_) ⟨?_,?_,?_,?_,?_,?_,?_,?_,?_,?_,?_,?_,?_,?_,?_,?_,?_,?_,trivial⟩ ?_
   all_goals try k_is
#print axioms PySem.Challenge.cw_signsmooth_k40_strict_ones_holds
