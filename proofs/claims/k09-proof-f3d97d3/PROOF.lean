import PyProof.Rows.All
import Wide.All
import OpenK.AllK
import Wide.FinOn
import Lean
import PyProof.EqAt
import PyProof.EqKinds
import PyProof.TupleCall
import PySem.Challenge.RW_lonewalks_k09_tails_exchanged
set_option Elab.async false
set_option linter.all false
set_option maxRecDepth 100000
namespace L2
open PySem PySem.Spec PyProof.Rows
abbrev Key:=Sum Int Str
def kP:Key->Value->Bool
 | .inl k,v=>Value.isInt k v
 | .inr x,v=>Value.isStrOf x v
def Cn (w:World):Key->Int
 | .inl k=>hashInt k
 | .inr x=>hashStr w x
theorem cV:∀ {k:Key} {v:Value},kP k v=true->(∃ i t,k=Sum.inl i/\v=Value.int i t) \/ (∃ x t,k=Sum.inr x/\v=Value.str x t)
 | .inl i,v,h=>by
  obtain ⟨t,e⟩:=Value.isInt_shape (k:=i) (v:=v) h
  exact .inl ⟨i,t,rfl,e⟩
 | .inr x,v,h=>by
  obtain ⟨t,e⟩:=Value.isStrOf_shape (x:=x) (v:=v) h
  exact .inr ⟨x,t,rfl,e⟩
theorem sO (i:Int) (t:Tok):kP (.inl i) (.int i t)=true:=by simp [kP,Value.isInt]
theorem sP (x:Str) (t:Tok):kP (.inr x) (.str x t)=true:=by simp [kP,Value.isStrOf]
theorem xS (a b:Int):decide ((Sum.inl a:Key)=Sum.inl b)=(a == b):=by
 by_cases e:a=b
 ·subst e;simp
 ·have h:¬ (Sum.inl a:Key)=Sum.inl b:=fun q=>e (Sum.inl.inj q)
  rw [decide_eq_false h]
  exact (beq_eq_false_iff_ne.mpr e).symm
theorem xT (a b:Str):decide ((Sum.inr a:Key)=Sum.inr b)=decide (a=b):=by
 by_cases e:a=b
 ·subst e;simp
 ·have h:¬ (Sum.inr a:Key)=Sum.inr b:=fun q=>e (Sum.inr.inj q)
  rw [decide_eq_false h,decide_eq_false e]
theorem xU (a:Int) (b:Str):decide ((Sum.inl a:Key)=Sum.inr b)=false:=decide_eq_false (fun q=>nomatch q)
theorem xV (a:Str) (b:Int):decide ((Sum.inr a:Key)=Sum.inl b)=false:=decide_eq_false (fun q=>nomatch q)
def dv (prog:Program) (w:World):PySem.KeyKind prog w Key where
 is:=kP
 hash:=Cn w
 inj:=fun v a b ha hb=>by
  rcases cV ha with ⟨i,t,rfl,rfl⟩ | ⟨x,t,rfl,rfl⟩
  ·rcases cV hb with ⟨j,u,rfl,e⟩ | ⟨y,u,rfl,e⟩
   ·injection e with e1 _;rw [e1]
   ·exact nomatch e
  ·rcases cV hb with ⟨j,u,rfl,e⟩ | ⟨y,u,rfl,e⟩
   ·exact nomatch e
   ·injection e with e1 _;rw [e1]
 byValue:=fun k v h=>by
  rcases cV h with ⟨i,t,rfl,rfl⟩ | ⟨x,t,rfl,rfl⟩ <;> rfl
 pyHash:=fun hv h=>by
  rcases cV hv with ⟨i,t,rfl,rfl⟩ | ⟨x,t,rfl,rfl⟩
  ·exact wpAny_pyHash_int h
  ·exact wpAny_pyHash_str h
 eqBool:=fun hu hv h=>by
  rcases cV hu with ⟨i,t,rfl,rfl⟩ | ⟨x,t,rfl,rfl⟩
  ·rcases cV hv with ⟨j,u,rfl,rfl⟩ | ⟨y,u,rfl,rfl⟩
   ·rw [xS] at h;exact wpAny_eqBool_int h
   ·rw [xU] at h;exact SeqAt.EqAt.int_str i t y u _ _ _ _ h
  ·rcases cV hv with ⟨j,u,rfl,rfl⟩ | ⟨y,u,rfl,rfl⟩
   ·rw [xV] at h;exact SeqAt.EqAt.str_int x t j u _ _ _ _ h
   ·rw [xT] at h;exact wpAny_eqBool_str h
 «strs»:=fun k x t v h=>by
  rcases cV h with ⟨i,u,rfl,e⟩ | ⟨y,u,rfl,e⟩
  ·exact nomatch e
  ·injection e with e1 _
   subst e1
   cases v <;> rfl
theorem qA (prog:Program) (w:World) (i:Int) (t:Tok):(dv prog w).is (.inl i) (.int i t)=true:=sO i t
theorem qB (prog:Program) (w:World) (x:Str) (t:Tok):(dv prog w).is (.inr x) (.str x t)=true:=sP x t
inductive V where
 | non | bl (b:Bool) | int (i:Int) | str (x:Str) | byt (b:Array UInt8) | flt (b:UInt64) | ref (a:Addr) | ty (n:String)
 deriving DecidableEq
def RelV:V->Value->Prop
 | .non,u=>u=Value.none
 | .bl b,u=>u=Value.bool b
 | .int i,u=>∃ t,u=Value.int i t
 | .str x,u=>∃ t,u=Value.str x t
 | .byt b,u=>∃ t,u=Value.bytes b t
 | .flt b,u=>∃ t,u=Value.float b t
 | .ref a,u=>u=Value.ref a
 | .ty n,u=>u=Value.type n
abbrev Vals:List V->List Value->Prop:=Paired RelV
theorem Vals.length {xs:List V} {us:List Value} (r:Vals xs us):xs.length=us.length:=Paired.length r
theorem Vals.get:∀ {xs:List V} {us:List Value} {i:Nat} {x:V},Vals xs us->xs[i]?=some x->∃ u,us[i]?=some u/\RelV x u
 | _,_,_,_,.nil,e=>by simp at e
 | _,_,0,_,.cons r _,e=>by simp at e;subst e;exact ⟨_,rfl,r⟩
 | _,_,i + 1,x,.cons _ t,e=>by
  obtain ⟨u,h1,h2⟩:=Vals.get (i:=i) (x:=x) t (by simpa using e)
  exact ⟨u,by simpa using h1,h2⟩
theorem Vals.set {x:V} {u:Value} (r:RelV x u):∀ {xs:List V} {us:List Value} (i:Nat),Vals xs us->Vals (xs.set i x) (us.set i u)
 | _,_,_,.nil=>.nil
 | _,_,0,.cons _ t=>.cons r t
 | _,_,i + 1,.cons q t=>.cons q (Vals.set r i t)
theorem Vals.append:∀ {xs ys:List V} {us ws:List Value},Vals xs us->Vals ys ws->Vals (xs ++ ys) (us ++ ws)
 | _,_,_,_,.nil,s=>s
 | _,_,_,_,.cons r t,s=>.cons r (Vals.append t s)
theorem Vals.take:∀ {xs:List V} {us:List Value} (n:Nat),Vals xs us->Vals (xs.take n) (us.take n)
 | _,_,0,_=>.nil
 | _,_,_ + 1,.nil=>.nil
 | _,_,n + 1,.cons r t=>.cons r (Vals.take n t)
theorem Vals.drop:∀ {xs:List V} {us:List Value} (n:Nat),Vals xs us->Vals (xs.drop n) (us.drop n)
 | _,_,0,r=>r
 | _,_,_ + 1,.nil=>.nil
 | _,_,n + 1,.cons _ t=>Vals.drop n t
def RelO:Option V->Option Value->Prop
 | some v,some u=>RelV v u
 | none,none=>True
 | _,_=>False
def KV {κ:Type}:List (κ × V)->List (κ × Value)->Prop:=Paired fun (p:κ × V) (q:κ × Value)=>p.1=q.1/\RelV p.2 q.2
def kV:Key->V
 | .inl i=>.int i
 | .inr x=>.str x
inductive HO where
 | lst (xs:List V)
 | tup (xs:List V)
 | dK (kvs:List (Key × V)) | dT (kvs:List (List Key × V))
 | set (S:Int->Bool) (n:Nat)
 | ins (C dx:Addr) (fs:List (Str × V))
 | own (x:Addr)
 | xd (fs:List (Str × V))
 | met (f x:Addr)
 | rng (lo hi:Int)
 | frz (o:Obj) (u:HO)
 | tbl (ps:Array Value)
 | ext (φ:Heap->Prop)
abbrev Hp:=Addr->Option HO
def upd (H:Hp) (a:Addr) (o:HO):Hp:=fun b=>if b=a then some o else H b
theorem bC {H:Hp} {a:Addr} {o:HO}:upd H a o a=some o:=by unfold upd;rw [if_pos rfl]
theorem aZ {H:Hp} {a b:Addr} {o:HO} (h:b ≠ a):upd H a o b=H b:=by unfold upd;rw [if_neg h]
theorem zI {H:Hp} {a b:Addr} {o u:HO} (h:H a=some o) (h':H b=some u) (d:o ≠ u):a ≠ b:=by
 intro e;subst e;rw [h] at h';exact d (Option.some.inj h')
theorem bB {H:Hp} {a b:Addr} {o:HO} (h:H a=some o) (h':H b=none):a ≠ b:=by
 intro e;subst e;rw [h] at h';cases h'
section
variable (P:Program) (w:World)
def ObjOk (H:Hp) (h:Heap) (a:Addr):HO->Prop
 | .lst xs=>xs.length <= sizeLine/\∃ (its:List Value) (n:Nat),Vals xs its/\h.get? a=some { cls:=.type "list", data:=.seq its.toArray n }
 | .tup xs=>xs.length <= sizeLine/\∃ its:List Value,Vals xs its/\IsTup h a its.toArray
 | .dK kvs=>kvs.length <= sizeLine/\(a == sysModules)=false/\∃ vs,KV kvs vs/\h.DictOf (dv P w) a vs
 | .dT kvs=>kvs.length <= sizeLine/\(a == sysModules)=false/\∃ xs:List (List Key × Addr × Value),
     Paired (fun (p:List Key × V) (q:List Key × Addr × Value)=>p.1=q.1/\H q.2.1=some (.tup (p.1.map kV))/\RelV p.2 q.2.2) kvs xs ∧
     ∃ o es ep,h.get? a=some o/\o.ExactDict/\o.data=.dict es ep/\es.toList=xs.map (entryOfKey (tupleKind (dv P w)))/\(xs.map (·.1)).Nodup
 | .set S n=>h.SetOf (intKind P w) a S n
 | .ins C dx fs=>H dx=some (.own a)/\fs.length <= 1000/\dx ≠ a/\h.get? a=some (PySem.W.instObj C dx) ∧
     ∃ mA,h.Ns1 dx mA/\(∀ f,RelO (fs.lookup f) (mA f))/\PySem.Within mA (fs.map (·.1))
 | .own _=>∃ o,h.get? a=some o
 | .xd fs=>∃ mA,h.Ns1 a mA/\∀ f,RelO (fs.lookup f) (mA f)
 | .rng lo hi=>∃ t u v,h.get? a=some { cls:=.type "range", data:=.fields #[.int lo t,.int hi u,.int 1 v] }
 | .frz o u=>h.get? a=some o/\ObjOk H h a u
 | .tbl ps=>h.get? a=some { cls:=.none,data:=.fields ps }
 | .met f x=>h.get? a=some (PySem.W.methodObj (.ref f) (.ref x))
 | .ext φ=>φ h/\(∃ o,h.get? a=some o)/\∀ h1 h2:Heap,φ h1->(∀ o,h1.get? a=some o->h2.get? a=some o)->φ h2
def HOk (H:Hp) (h:Heap):Prop:=∀ a o,H a=some o->ObjOk P w H h a o
end
section
variable {P:Program} {w:World} {H H':Hp} {h h':Heap} {a:Addr} {o:HO}
theorem ObjOk.lt (x:ObjOk P w H h a o):a < h.objs.size:=by
 cases o with
 | lst xs=>obtain ⟨_,_,_,_,e⟩:=x;exact Heap.lt_size e
 | tup xs=>obtain ⟨_,_,_,p⟩:=x;exact p.lt
 | dK kvs=>obtain ⟨_,_,_,_,o,_,_,e,_⟩:=x;exact Heap.lt_size e
 | dT kvs=>obtain ⟨_,_,_,_,o,_,_,e,_⟩:=x;exact Heap.lt_size e
 | set S n=>obtain ⟨o,_,_,_,e,_⟩:=x;exact Heap.lt_size e
 | ins C dx fs=>obtain ⟨_,_,_,e,_⟩:=x;exact Heap.lt_size e
 | own y=>obtain ⟨_,e⟩:=x;exact Heap.lt_size e
 | xd fs=>obtain ⟨_,⟨_,_,_,e,_⟩,_⟩:=x;exact Heap.lt_size e
 | rng lo hi=>obtain ⟨_,_,_,e⟩:=x;exact Heap.lt_size e
 | frz ob u=>obtain ⟨e,_⟩:=x;exact Heap.lt_size e
 | tbl ps=>exact Heap.lt_size (show h.get? a=some _ from x)
 | met f y=>exact Heap.lt_size (show h.get? a=some _ from x)
 | ext φ=>obtain ⟨_,⟨_,e⟩,_⟩:=x;exact Heap.lt_size e
theorem Paired.mapP {α β:Type} {F G:α->β->Prop}:∀ {l₁:List α} {l₂:List β},Paired F l₁ l₂->(∀ a b,F a b->G a b)->Paired G l₁ l₂
 | _,_,.nil,_=>.nil
 | _,_,.cons r t,f=>.cons (f _ _ r) (Paired.mapP t f)
theorem ObjOk.stay (x:ObjOk P w H h a o) (k:∀ b u,(b=a \/ H b=some (.own a))->h.get? b=some u->h'.get? b=some u)
    (ho:∀ b,H b=some (.own a)->H' b=some (.own a)) (ht:∀ b xs,H b=some (.tup xs)->H' b=some (.tup xs)):ObjOk P w H' h' a o:=by
 induction o with
 | lst xs=>obtain ⟨z,its,n,r,e⟩:=x;exact ⟨z,its,n,r,k _ _ (.inl rfl) e⟩
 | tup xs=>obtain ⟨z,its,r,ob,e,c⟩:=x;exact ⟨z,its,r,ob,k _ _ (.inl rfl) e,c⟩
 | dK kvs=>obtain ⟨z,y,vs,r,ob,es,ep,e,c⟩:=x;exact ⟨z,y,vs,r,ob,es,ep,k _ _ (.inl rfl) e,c⟩
 | dT kvs =>
  obtain ⟨z,y,xs,r,ob,es,ep,e,c⟩:=x
  exact ⟨z,y,xs,Paired.mapP r fun p q z=>⟨z.1,ht _ _ z.2.1,z.2.2⟩,ob,es,ep,k _ _ (.inl rfl) e,c⟩
 | set S n=>obtain ⟨ob,es,ep,t,e,c⟩:=x;exact ⟨ob,es,ep,t,k _ _ (.inl rfl) e,c⟩
 | ins C dx fs =>
  obtain ⟨d,z,ne,e,mA,⟨od,es,ep,e2,c⟩,r⟩:=x
  exact ⟨ho _ d,z,ne,k _ _ (.inl rfl) e,mA,⟨od,es,ep,k _ _ (.inr d) e2,c⟩,r⟩
 | own y=>obtain ⟨ob,e⟩:=x;exact ⟨ob,k _ _ (.inl rfl) e⟩
 | xd fs=>obtain ⟨mA,⟨od,es,ep,e,c⟩,r⟩:=x;exact ⟨mA,⟨od,es,ep,k _ _ (.inl rfl) e,c⟩,r⟩
 | rng lo hi=>obtain ⟨t,u,v,e⟩:=x;exact ⟨t,u,v,k _ _ (.inl rfl) e⟩
 | frz ob u ih=>obtain ⟨e,q⟩:=x;exact ⟨k _ _ (.inl rfl) e,ih q⟩
 | tbl ps =>
  have e:h.get? a=some { cls:=.none,data:=.fields ps }:=x
  show h'.get? a=some { cls:=.none,data:=.fields ps }
  exact k a _ (.inl rfl) e
 | met f y =>
  have e:h.get? a=some (PySem.W.methodObj (.ref f) (.ref y)):=x
  show h'.get? a=some (PySem.W.methodObj (.ref f) (.ref y))
  exact k a _ (.inl rfl) e
 | ext φ=>obtain ⟨p,⟨o,e⟩,st⟩:=x;exact ⟨st _ _ p fun o q=>k _ _ (.inl rfl) q,⟨o,k _ _ (.inl rfl) e⟩,st⟩
theorem HOk.lt (x:HOk P w H h) (e:H a=some o):a < h.objs.size:=(x a o e).lt
theorem HOk.fresh (x:HOk P w H h) (e:h.objs.size <= a):H a=none:=by
 cases q:H a with
 | none=>rfl
 | some u=>exact absurd (Nat.lt_of_lt_of_le (x.lt q) e) (Nat.lt_irrefl _)
theorem HOk.kept (x:HOk P w H h) (k:∀ b u,h.get? b=some u->h'.get? b=some u):HOk P w H h':=fun a o e =>
 (x a o e).stay (fun b u _ q=>k b u q) (fun _ q=>q) fun _ _ q=>q
theorem HOk.laid (x:HOk P w H h) (k:∀ b u,h.get? b=some u->h'.get? b=some u) (hp:h.objs.size <= a) (new:ObjOk P w (upd H a o) h' a o):HOk P w (upd H a o) h':=fun b u e=>by
 have hn:=x.fresh hp
 by_cases hb:b=a
 ·subst hb;rw [bC] at e;cases e;exact new
 ·rw [aZ hb] at e
  exact (x b u e).stay (fun c v _ q=>k c v q) (fun c q=>by rw [aZ (bB q hn)];exact q) fun c xs q=>by rw [aZ (bB q hn)];exact q
end
def Rd (H:Hp) (a:Addr) (u:HO):Prop:=H a=some u \/ ∃ o,H a=some (.frz o u)
theorem Rd.ok {P:Program} {w:World} {H:Hp} {h:Heap} {a:Addr} {u:HO} (r:Rd H a u) (x:HOk P w H h):ObjOk P w H h a u:=by
 rcases r with r | ⟨o,r⟩
 ·exact x a u r
 ·obtain ⟨_,q⟩:=x a _ r
  exact q
def Mut:Option HO->Prop
 | some (.lst _)=>True
 | some (.dK _)=>True
 | some (.dT _)=>True
 | some (.set _ _)=>True
 | some (.ins _ _ _)=>True
 | some (.ext _)=>True
 | _=>False
section
variable {P:Program} {w:World} {H:Hp} {h h':Heap} {x e:Addr} {o':HO}
theorem HOk.write (ok:HOk P w H h) (mu:Mut (H x)) (he:e=x \/ H e=some (.own x)) (k:∀ b u,b ≠ e->h.get? b=some u->h'.get? b=some u) (heo:∃ u,h'.get? e=some u)
    (new:ObjOk P w (upd H x o') h' x o'):HOk P w (upd H x o') h':=fun b u q=>by
 have nown:∀ c y,H c=some (.own y)->c ≠ x:=fun c y r z=>by subst z;rw [r] at mu;exact mu
 have ntup:∀ c xs,H c=some (.tup xs)->c ≠ x:=fun c xs r z=>by subst z;rw [r] at mu;exact mu
 by_cases hb:b=x
 ·subst hb;rw [bC] at q;cases q;exact new
 ·rw [aZ hb] at q
  by_cases hbe:b=e
  ·have q':H b=some (.own x):=by
      rcases he with z | z
      ·exact absurd (hbe.trans z) hb
      ·rw [hbe];exact z
   rw [q] at q';cases q'
   obtain ⟨v,hv⟩:=heo
   exact ⟨v,by rw [hbe];exact hv⟩
  ·refine (ok b u q).stay (fun c v hc r=>k c v ?_ r) (fun c r=>by rw [aZ (nown c b r)];exact r) fun c xs r=>by rw [aZ (ntup c xs r)];exact r
   rcases hc with rfl | hc
   ·exact hbe
   ·rintro rfl
    rcases he with z | z
    ·exact nown c b hc z
    ·rw [hc] at z;cases z;exact hb rfl
end
structure Un (fs ex:List Addr) (H H':Hp) (h h':Heap):Prop where
 keep:∀ b o,h.get? b=some o->H b=none->b ∉ fs->b ∉ ex->h'.get? b=some o
 slot:∀ b o,h.get? b=some o->H b=none->b ∈ fs->b ∉ ex->∃ sl,h'.get? b=some { o with slots:=sl }
 free:∀ b o,h.get? b=some o->H b=none->b ∉ ex->H' b=none
 there:∀ b o,h.get? b=some o->b ∉ ex->∃ o',h'.get? b=some o'
 tups:∀ b xs,H b=some (.tup xs)->H' b=some (.tup xs)
 frzs:∀ b o u,H b=some (.frz o u)->H' b=some (.frz o u)
 tbls:∀ b ps,H b=some (.tbl ps)->∃ more,H' b=some (.tbl (ps ++ more))
section
variable {fs fs' ex ex':List Addr} {H H1 H2:Hp} {h h1 h2 h':Heap} {a x e:Addr} {o:HO}
theorem Un.any (u:Un fs ex H H1 h h1) {b:Addr} {ob:Obj} (q:h.get? b=some ob) (n:H b=none) (hx:b ∉ ex):∃ sl,h1.get? b=some { ob with slots:=sl }:=by
 by_cases hb:b ∈ fs
 ·exact u.slot b ob q n hb hx
 ·exact ⟨ob.slots,u.keep b ob q n hb hx⟩
theorem Un.trans (a:Un fs ex H H1 h h1) (b:Un fs ex H1 H2 h1 h2):Un fs ex H H2 h h2 where
 keep:=fun c ob q n hc hx=>b.keep c ob (a.keep c ob q n hc hx) (a.free c ob q n hx) hc hx
 slot:=fun c ob q n hc hx=>by
  obtain ⟨sl,e1⟩:=a.slot c ob q n hc hx
  obtain ⟨sl',e2⟩:=b.slot c _ e1 (a.free c ob q n hx) hc hx
  exact ⟨sl',e2⟩
 free:=fun c ob q n hx=>by
  obtain ⟨o',e1⟩:=a.there c ob q hx
  exact b.free c o' e1 (a.free c ob q n hx) hx
 there:=fun c ob q hx=>by
  obtain ⟨o',e1⟩:=a.there c ob q hx
  exact b.there c o' e1 hx
 tups:=fun c xs q=>b.tups c xs (a.tups c xs q)
 frzs:=fun c ob xs q=>b.frzs c ob xs (a.frzs c ob xs q)
 tbls:=fun c ps q=>by
  obtain ⟨m1,e1⟩:=a.tbls c ps q
  obtain ⟨m2,e2⟩:=b.tbls c _ e1
  exact ⟨m1 ++ m2,by rw [e2,Array.append_assoc]⟩
theorem Un.kept (k:∀ b u,h.get? b=some u->h'.get? b=some u):Un fs ex H H h h':=
 ⟨fun b ob q _ _ _=>k b ob q,fun b ob q _ _ _=>⟨ob.slots,k b ob q⟩,fun _ _ _ n _=>n,fun b ob q _=>⟨ob,k b ob q⟩,fun _ _ q=>q,fun _ _ _ q=>q,fun _ ps q=>⟨#[],by rw [q];simp⟩⟩
theorem Un.refl:Un fs ex H H h h:=Un.kept fun _ _ q=>q
theorem Un.laid (k:∀ b u,h.get? b=some u->h'.get? b=some u) (hp:h.objs.size <= a) (hn:H a=none):Un fs ex H (upd H a o) h h' where
 keep:=fun b u q _ _ _=>k b u q
 slot:=fun b u q _ _ _=>⟨u.slots,k b u q⟩
 free:=fun b u q n _=>by rw [aZ (Nat.ne_of_lt (Nat.lt_of_lt_of_le (Heap.lt_size q) hp))];exact n
 there:=fun b u q _=>⟨u,k b u q⟩
 tups:=fun b xs q=>by rw [aZ (bB q hn)];exact q
 frzs:=fun b u xs q=>by rw [aZ (bB q hn)];exact q
 tbls:=fun b ps q=>⟨#[],by rw [aZ (bB q hn),q];simp⟩
theorem Un.write (mu:Mut (H x)) (he:e=x \/ H e=some (.own x)) (k:∀ b u,b ≠ e->h.get? b=some u->h'.get? b=some u) (heo:∃ u,h'.get? e=some u):Un fs ex H (upd H x o) h h':=by
 have hx:∀ b,H b=none->b ≠ x:=fun b n z=>by subst z;rw [n] at mu;exact mu
 have hb:∀ b,H b=none->b ≠ e:=fun b n z=>by
  subst z
  rcases he with r | r
  ·exact hx b n r
  ·rw [n] at r;cases r
 have hm:∀ b u,H b=some u->¬ Mut (some u)->b ≠ x:=fun b u q nm z=>by subst z;rw [q] at mu;exact nm mu
 refine ⟨fun b u q n _ _=>k b u (hb b n) q,fun b u q n _ _=>⟨u.slots,k b u (hb b n) q⟩,fun b u q n _=>by rw [aZ (hx b n)];exact n,fun b u q _=>?_,
  fun b xs q=>by rw [aZ (hm b _ q fun z=>z)];exact q,fun b u xs q=>by rw [aZ (hm b _ q fun z=>z)];exact q,fun b ps q=>⟨#[],by rw [aZ (hm b _ q fun z=>z),q];simp⟩⟩
 by_cases hbe:b=e
 ·subst hbe;exact heo
 ·exact ⟨u,k b u hbe q⟩
end
def trk (h:Heap) (H:Hp):List Addr:=(List.range h.objs.size).filter fun a=>(H a).isSome
def jy (h:Heap) (H:Hp):Heap:=PySem.W.hideAll h (trk h H)
theorem sQ (h:Heap) (H:Hp):(jy h H).objs.size=h.objs.size:=PySem.W.hideAll_size _ _
theorem uV {h:Heap} {H:Hp} {b:Addr} {o:Obj} (e:h.get? b=some o) (n:H b=none):(jy h H).get? b=some o:=
 PySem.W.hideAll_get _ e fun hm=>by
  have q:(H b).isSome=true:=(List.mem_filter.mp hm).2
  rw [n] at q;simp at q
theorem wG {h:Heap} {H:Hp} {b:Addr} {o:Obj} (e:(jy h H).get? b=some o):h.get? b=some o/\H b=none:=by
 have e':h.get? b=some o:=PySem.W.of_hideAll (trk h H) e
 refine ⟨e',?_⟩
 cases q:H b with
 | none=>rfl
 | some x =>
  have hm:b ∈ trk h H:=List.mem_filter.mpr ⟨List.mem_range.mpr (Heap.lt_size e'),by simp [q]⟩
  have z:(jy h H).get? b=none:=PySem.W.hideAll_none (trk h H) hm
  rw [z] at e;cases e
def wH (g h:Heap) (L:Addr):List (Addr × Obj):=(List.range h.objs.size).filterMap fun a=>if a=L \/ (g.get? a).isSome=true then none else (h.get? a).map fun o=>(a,o)
def rest (g h:Heap) (L d:Addr):List (Addr × Obj):=(wH g h L).filter fun p=>decide (p.1 ≠ d)
structure Mod (K:PySem.W.Frag) (mg:Str->Option Value) (base:Heap):Prop where
 kin:K.In base
 glob:base.Ns mainGlobals mg
 blt:∃ mb,base.Ns builtinsNs mb/\∀ x:Str,x ≠ "__name__" -> mb x=bootBuiltins x
 nolimit:base.NoLimit
structure Cx where
 prog:Program
 w:World
 K:PySem.W.Frag
 mg:Str->Option Value
 base:Heap
 A:Around
 N:List Str
 s₀:Shared
 H₀:Hp
 env:Env
 outer:List Env
 stack:List Env
 ex:List Addr
 fn:Str->Bool
 calm:Bool
 pn:List (Addr × Obj)
 xe:Value->Shared->Prop
def frs (l:List Env):List Addr:=l.filterMap (·.frame)
abbrev Cx.fs (X:Cx):List Addr:=frs X.outer
def Vis (sc:Scope) (x:Str):Prop:=sc.names.lookup x=some .local \/ sc.names.lookup x=some .cell \/ sc.names.lookup x=some .free
def Loc (sc:Scope) (x:Str):Prop:=sc.names.lookup x=some .local \/ sc.names.lookup x=some .cell
def Co (env:Env) (h:Heap) (m:Str->Option Value) (x:Str) (u:Value):Prop:=
 (env.kindOf x=some .local/\m x=some u) \/ ((env.kindOf x=some .cell \/ env.kindOf x=some .free)/\∃ c,env.cells.lookup x=some c/\h.IsCell c (some u))
structure Cx.Ok (X:Cx):Prop where
 mod:Mod X.K X.mg X.base
 kind:X.env.scope.kind=.function
 glob:X.env.globals=mainGlobals
 blt:X.env.builtins=builtinsNs
 above:X.s₀.heap.objs.size <= X.env.locals
 inj:∀ x y c,X.env.cells.lookup x=some c->X.env.cells.lookup y=some c->x=y
 has:∀ x,(X.env.kindOf x=some .cell \/ X.env.kindOf x=some .free)->∃ c,X.env.cells.lookup x=some c
 cab:∀ x c,X.fn x=true->X.env.cells.lookup x=some c->X.s₀.heap.objs.size <= c
 hd:X.calm=true->X.A.handled=none
 frames:X.A.frames=some X.stack
 stk:X.stack=X.outer \/ (X.stack=X.env::X.outer/\X.env.frame=some X.env.locals)
 exf:∀ b ∈ X.ex,b ≠ X.env.locals/\∀ x c,X.env.cells.lookup x=some c->c ≠ b
 bs:∀ b o,X.base.get? b=some o->X.s₀.heap.get? b=some o/\X.H₀ b=none
 bsz:X.base.objs.size <= X.s₀.heap.objs.size
 noex:∀ b o,X.base.get? b=some o->b ∉ X.ex
 exfs:∀ b ∈ X.ex,b ∉ X.fs
 funs:X.s₀.heap.FunFrames X.base X.outer
 frf:∀ b ∈ X.fs,X.H₀ b=none
structure Inv (X:Cx) (pins:List (Addr × Obj)) (σ:List (Option V)) (H:Hp) (s:Shared):Prop where
 ok:X.Ok
 os:s.os=X.s₀.os
 bare:AllBare s.gens
 base:Un X.fs X.ex X.H₀ H X.s₀.heap s.heap
 loc:∃ m,s.heap.Ns X.env.locals m/\∀ (i:Nat) (x:Str) (v:V),X.N[i]?=some x->σ[i]?=some (some v)->Vis X.env.scope x->∃ u,RelV v u/\Co X.env s.heap m x u
 cell:∀ x c,X.env.cells.lookup x=some c->∃ v,s.heap.IsCell c v
 free:H X.env.locals=none
 freeC:∀ x c,X.env.cells.lookup x=some c->H c=none
 pin:∀ p ∈ X.pn ++ pins,s.heap.get? p.1=some p.2/\H p.1=none/\p.1 ≠ X.env.locals/\p.1 ∉ X.fs/\∀ v,p.2.data ≠ .cell v
 hok:HOk X.prog X.w H s.heap
 len:σ.length=X.N.length
section
variable {X:Cx} {pins:List (Addr × Obj)} {σ:List (Option V)} {H H':Hp} {s:Shared} {h':Heap}
theorem Cx.Ok.nofr (ok:X.Ok) {b:Addr} {o:Obj} (e:X.base.get? b=some o):b ∉ X.fs:=fun hb=>by
 have:=(ok.funs.mem hb).1
 rw [e] at this;cases this
theorem Inv.bs (I:Inv X pins σ H s):∀ b o,X.base.get? b=some o->s.heap.get? b=some o/\H b=none:=fun b o e =>
 ⟨I.base.keep b o (I.ok.bs b o e).1 (I.ok.bs b o e).2 (I.ok.nofr e) (I.ok.noex b o e),I.base.free b o (I.ok.bs b o e).1 (I.ok.bs b o e).2 (I.ok.noex b o e)⟩
theorem Inv.bk (I:Inv X pins σ H s):∀ b o,X.base.get? b=some o->s.heap.get? b=some o:=fun b o e=>(I.bs b o e).1
theorem Inv.mod (I:Inv X pins σ H s):Mod X.K X.mg X.base:=I.ok.mod
theorem Inv.kIn (I:Inv X pins σ H s):X.K.In s.heap:=I.ok.mod.kin.keeps I.bk
theorem Inv.lt (I:Inv X pins σ H s):X.env.locals < s.heap.objs.size:=let ⟨_,hn,_⟩:=I.loc;hn.lt
theorem Inv.sz (I:Inv X pins σ H s):X.s₀.heap.objs.size <= s.heap.objs.size:=Nat.le_trans I.ok.above (Nat.le_of_lt I.lt)
theorem Inv.nofs (I:Inv X pins σ H s) {a:Addr} (h:s.heap.objs.size <= a):a ∉ X.fs:=fun hb=>by
 obtain ⟨_,o,ho,_⟩:=I.ok.funs.mem hb
 exact absurd (Nat.lt_of_lt_of_le (Heap.lt_size ho) (Nat.le_trans I.sz h)) (Nat.lt_irrefl _)
theorem Inv.cne (I:Inv X pins σ H s):∀ x c,X.env.cells.lookup x=some c->c ≠ X.env.locals:=fun x c e z=>by
 obtain ⟨v,o,ho,hd⟩:=I.cell x c e
 obtain ⟨m,⟨o',es,ep,ho',hd',_⟩,_⟩:=I.loc
 rw [z,ho'] at ho;cases ho;rw [hd'] at hd;cases hd
theorem Inv.funs (I:Inv X pins σ H s):s.heap.FunFrames X.base X.outer:=by
 have all:∀ (l:List Env),(∀ b ∈ frs l,b ∈ X.fs)->X.s₀.heap.FunFrames X.base l->s.heap.FunFrames X.base l:=by
  intro l
  induction l with
  | nil=>intro _ _;trivial
  | cons env r ih =>
   intro hs hl
   obtain ⟨hk,⟨L,o,hf,hn,ho,hd⟩,hr⟩:=hl
   have hL:L ∈ X.fs:=hs L (by unfold frs;rw [List.filterMap_cons,hf];exact List.mem_cons_self)
   obtain ⟨sl,e⟩:=I.base.slot L o ho (I.ok.frf L hL) hL fun z=>I.ok.exfs L z hL
   exact ⟨hk,⟨L,_,hf,hn,e,hd⟩,ih (fun b hb=>hs b (by unfold frs;rw [List.filterMap_cons,hf];exact List.mem_cons_of_mem _ hb)) hr⟩
 exact all X.outer (fun _ hb=>hb) I.ok.funs
theorem Inv.stack (I:Inv X pins σ H s):s.heap.FunFrames X.base X.stack:=by
 rcases I.ok.stk with e | ⟨e,hf⟩
 ·rw [e];exact I.funs
 ·rw [e]
  obtain ⟨m,hn,_⟩:=I.loc
  refine .cons (by rw [I.ok.kind];decide) hf hn ?_ I.funs
  exact Heap.get?_none_of_le (Nat.le_trans I.ok.bsz I.ok.above)
theorem Inv.stkSub (I:Inv X pins σ H s):∀ b ∈ frs X.stack,b ∈ X.env.locals::X.fs:=fun b hb=>by
 rcases I.ok.stk with e | ⟨e,hf⟩
 ·rw [e] at hb;exact List.mem_cons_of_mem _ hb
 ·rw [e] at hb
  unfold frs at hb
  rw [List.filterMap_cons,hf] at hb
  exact hb
theorem Inv.stkFree (I:Inv X pins σ H s):∀ b ∈ frs X.stack,H b=none:=fun b hb=>by
 rcases List.mem_cons.mp (I.stkSub b hb) with e | hb
 ·rw [e];exact I.free
 ·obtain ⟨_,o,ho,_⟩:=I.ok.funs.mem hb
  exact I.base.free b o ho (I.ok.frf b hb) fun z=>I.ok.exfs b z hb
theorem Inv.step {g':Array GenState} {t':Nat} {d':Drawn} {ch:List Addr} (I:Inv X pins σ H s)
    (hch:∀ b ∈ ch,(b ∈ X.ex \/ X.s₀.heap.objs.size <= b)/\b ≠ X.env.locals/\(∀ x c,X.env.cells.lookup x=some c->c ≠ b)/\∀ p ∈ X.pn ++ pins,p.1 ≠ b)
    (keep:∀ b o,b ≠ X.env.locals->b ∉ X.fs->b ∉ ch->s.heap.get? b=some o->H b=none->h'.get? b=some o)
    (slot:∀ b o,b ≠ X.env.locals->b ∈ X.fs->b ∉ ch->s.heap.get? b=some o->H b=none->∃ sl,h'.get? b=some { o with slots:=sl }) (free:∀ b o,b ∉ ch->s.heap.get? b=some o->H b=none->H' b=none)
    (there:∀ b o,b ∉ ch->s.heap.get? b=some o->∃ o',h'.get? b=some o')
    (tups:∀ b xs,H b=some (.tup xs)->H' b=some (.tup xs)) (frzs:∀ b o u,H b=some (.frz o u)->H' b=some (.frz o u)) (tbls:∀ b ps,H b=some (.tbl ps)->∃ more,H' b=some (.tbl (ps ++ more)))
    (ns:∀ m,s.heap.Ns X.env.locals m->h'.Ns X.env.locals m) (hok:HOk X.prog X.w H' h') (hg:AllBare g') :
    Inv X pins σ H' { s with heap:=h',gens:=g',drawn:=d',toks:=t' }:=by
 have neL:∀ b o,X.s₀.heap.get? b=some o->b ≠ X.env.locals:=fun b o e=>Nat.ne_of_lt (Nat.lt_of_lt_of_le (Heap.lt_size e) I.ok.above)
 have neC:∀ b o,X.s₀.heap.get? b=some o->b ∉ X.ex->b ∉ ch:=fun b o e hx hb=>by
  rcases (hch b hb).1 with z | z
  ·exact hx z
  ·exact absurd (Nat.lt_of_lt_of_le (Heap.lt_size e) z) (Nat.lt_irrefl _)
 have cellK:∀ x c,X.env.cells.lookup x=some c->∀ v,s.heap.IsCell c v->h'.IsCell c v:=fun x c e v ⟨o,ho,hd⟩=>by
  have nch:c ∉ ch:=fun z=>(hch c z).2.2.1 x c e rfl
  by_cases hc:c ∈ X.fs
  ·obtain ⟨sl,q⟩:=slot c o (I.cne x c e) hc nch ho (I.freeC x c e)
   exact ⟨_,q,hd⟩
  ·exact ⟨o,keep c o (I.cne x c e) hc nch ho (I.freeC x c e),hd⟩
 refine ⟨I.ok,I.os,hg,⟨fun b o e n hb hx=>?_,fun b o e n hb hx=>?_,fun b o e n hx=>?_,fun b o e hx=>?_,fun b xs e=>tups b xs (I.base.tups b xs e),fun b o xs e=>frzs b o xs (I.base.frzs b o xs e),fun b ps e=>?_⟩,?_,fun x c e=>?_,?_,fun x c e=>?_,fun p hp=>?_,hok,I.len⟩
 ·exact keep b o (neL b o e) hb (neC b o e hx) (I.base.keep b o e n hb hx) (I.base.free b o e n hx)
 ·obtain ⟨sl,e1⟩:=I.base.slot b o e n hb hx
  obtain ⟨sl',e2⟩:=slot b _ (neL b o e) hb (neC b o e hx) e1 (I.base.free b o e n hx)
  exact ⟨sl',e2⟩
 ·obtain ⟨o',e1⟩:=I.base.there b o e hx
  exact free b o' (neC b o e hx) e1 (I.base.free b o e n hx)
 ·obtain ⟨o',e1⟩:=I.base.there b o e hx
  exact there b o' (neC b o e hx) e1
 ·obtain ⟨m1,e1⟩:=I.base.tbls b ps e
  obtain ⟨m2,e2⟩:=tbls b _ e1
  exact ⟨m1 ++ m2,by rw [e2,Array.append_assoc]⟩
 ·obtain ⟨m,hn,hl⟩:=I.loc
  refine ⟨m,ns m hn,fun i x v e1 e2 e3=>?_⟩
  obtain ⟨u,r,l⟩:=hl i x v e1 e2 e3
  refine ⟨u,r,?_⟩
  rcases l with l | ⟨k,c,e,z⟩
  ·exact .inl l
  ·exact .inr ⟨k,c,e,cellK x c e _ z⟩
 ·obtain ⟨v,z⟩:=I.cell x c e
  exact ⟨v,cellK x c e v z⟩
 ·obtain ⟨m,⟨o,_,_,ho,_⟩,_⟩:=I.loc
  exact free _ o (fun z=>(hch _ z).2.1 rfl) ho I.free
 ·obtain ⟨v,o,ho,hd⟩:=I.cell x c e
  exact free c o (fun z=>(hch c z).2.2.1 x c e rfl) ho (I.freeC x c e)
 ·obtain ⟨e,n,ne,nf,d⟩:=I.pin p hp
  have nch:p.1 ∉ ch:=fun z=>(hch p.1 z).2.2.2 p hp rfl
  exact ⟨keep p.1 p.2 ne nf nch e n,free p.1 p.2 nch e n,ne,nf,d⟩
theorem Inv.un {t':Nat} (I:Inv X pins σ H s) (u:Un X.fs [] H H' s.heap h') (hok:HOk X.prog X.w H' h'):Inv X pins σ H' { s with heap:=h',toks:=t' }:=by
 obtain ⟨m,⟨o,es,ep,ho,r⟩,_⟩:=id I.loc
 obtain ⟨sl,hL⟩:=u.any ho I.free (by simp)
 exact I.step (g':=s.gens) (d':=s.drawn) (ch:=[]) (fun _ z=>nomatch z) (fun b o _ hb _ e n=>u.keep b o e n hb (by simp)) (fun b o _ hb _ e n=>u.slot b o e n hb (by simp)) (fun b o _ e n=>u.free b o e n (by simp)) (fun b o _ e=>u.there b o e (by simp)) u.tups u.frzs u.tbls (fun m' hm=>by
  obtain ⟨o',es',ep',ho',r'⟩:=hm
  rw [ho] at ho';cases ho'
  exact ⟨_,es',ep',hL,r'⟩) hok I.bare
theorem Inv.call {g':Array GenState} {t':Nat} {d':Drawn} {ch:List Addr} (I:Inv X pins σ H s) (u:Un (frs X.stack) ch H H' s.heap h') (hok:HOk X.prog X.w H' h') (hg:AllBare g')
    (hch:∀ b ∈ ch,(b ∈ X.ex \/ X.s₀.heap.objs.size <= b)/\b ≠ X.env.locals/\(∀ x c,X.env.cells.lookup x=some c->c ≠ b)/\∀ p ∈ X.pn ++ pins,p.1 ≠ b) :
    Inv X pins σ H' { s with heap:=h',gens:=g',drawn:=d',toks:=t' }:=by
 obtain ⟨m,⟨o,es,ep,ho,r⟩,_⟩:=id I.loc
 obtain ⟨sl,hL⟩:=u.any ho I.free fun z=>(hch _ z).2.1 rfl
 exact I.step (ch:=ch) hch (fun b o hL hb hc e n=>u.keep b o e n (fun z=>(List.mem_cons.mp (I.stkSub b z)).elim hL hb) hc) (fun b o _ _ hc e n=>u.any e n hc) (fun b o hc e n=>u.free b o e n hc) (fun b o hc e=>u.there b o e hc) u.tups u.frzs u.tbls (fun m' hm=>by
  obtain ⟨o',es',ep',ho',r'⟩:=hm
  rw [ho] at ho';cases ho'
  exact ⟨_,es',ep',hL,r'⟩) hok hg
theorem Inv.turned {t':Nat} {it:Addr} (I:Inv X pins σ H s) (k:∀ b o,b ≠ it->s.heap.get? b=some o->h'.get? b=some o) (hn:H it=none) (hL:it ≠ X.env.locals)
    (h1:it ∈ X.ex \/ X.s₀.heap.objs.size <= it) (h2:∀ x c,X.env.cells.lookup x=some c->c ≠ it) (h3:∀ p ∈ X.pn ++ pins,p.1 ≠ it):Inv X pins σ H { s with heap:=h',toks:=t' }:=by
 have nit:∀ b u,H b=some u->b ≠ it:=fun b u e z=>by rw [z,hn] at e;cases e
 refine I.step (g':=s.gens) (d':=s.drawn) (ch:=[it]) (fun b hb=>?_) (fun b o _ _ hc e _=>k b o (fun z=>hc (by simp [z])) e) (fun b o _ _ hc e _=>⟨o.slots,k b o (fun z=>hc (by simp [z])) e⟩) (fun _ _ _ _ n=>n)
  (fun b o hc e=>⟨o,k b o (fun z=>hc (by simp [z])) e⟩) (fun _ _ e=>e) (fun _ _ _ e=>e) (fun b ps e=>⟨#[],by rw [e];simp⟩) (fun m hm=>?_) (fun b u e=>?_) I.bare
 ·have e:b=it:=by simpa using hb
  subst e
  exact ⟨h1,hL,h2,h3⟩
 ·obtain ⟨o,es,ep,ho,r⟩:=hm
  exact ⟨o,es,ep,k _ o (Ne.symm hL) ho,r⟩
 ·refine (I.hok b u e).stay (fun c v hc q=>k c v ?_ q) (fun _ q=>q) fun _ _ q=>q
  rcases hc with z | z
  ·rw [z];exact nit b u e
  ·exact nit c _ z
theorem Inv.tok (I:Inv X pins σ H s) (t:Nat):Inv X pins σ H { s with toks:=t }:=I.un (h':=s.heap) (t':=t) Un.refl I.hok
theorem Inv.kept {t':Nat} (I:Inv X pins σ H s) (k:∀ b u,s.heap.get? b=some u->h'.get? b=some u):Inv X pins σ H { s with heap:=h',toks:=t' }:=I.un (Un.kept k) (I.hok.kept k)
theorem Inv.laid {a:Addr} {o:HO} {t':Nat} (I:Inv X pins σ H s) (k:∀ b u,s.heap.get? b=some u->h'.get? b=some u) (hp:s.heap.objs.size <= a) (new:ObjOk X.prog X.w (upd H a o) h' a o) :
    Inv X pins σ (upd H a o) { s with heap:=h',toks:=t' }:=I.un (Un.laid k hp (I.hok.fresh hp)) (I.hok.laid k hp new)
theorem Inv.write {x e:Addr} {o:HO} {t':Nat} (I:Inv X pins σ H s) (mu:Mut (H x)) (he:e=x \/ H e=some (.own x)) (k:∀ b u,b ≠ e->s.heap.get? b=some u->h'.get? b=some u) (heo:∃ u,h'.get? e=some u)
    (new:ObjOk X.prog X.w (upd H x o) h' x o):Inv X pins σ (upd H x o) { s with heap:=h',toks:=t' }:=I.un (Un.write mu he k heo) (I.hok.write mu he k heo new)
theorem Inv.pins_of {pins':List (Addr × Obj)} (I:Inv X pins σ H s) (h:∀ p ∈ pins',s.heap.get? p.1=some p.2/\H p.1=none/\p.1 ≠ X.env.locals/\p.1 ∉ X.fs/\∀ v,p.2.data ≠ .cell v):Inv X pins' σ H s:=
 ⟨I.ok,I.os,I.bare,I.base,I.loc,I.cell,I.free,I.freeC,fun p hp=>(List.mem_append.mp hp).elim (fun z=>I.pin p (List.mem_append_left _ z)) (h p),I.hok,I.len⟩
theorem o9 {N:List Str} (hN:N.Nodup) {i j:Nat} {x:Str} (a:N[i]?=some x) (b:N[j]?=some x):i=j:=by
 obtain ⟨h1,e1⟩:=List.getElem?_eq_some_iff.mp a
 obtain ⟨h2,e2⟩:=List.getElem?_eq_some_iff.mp b
 exact (List.getElem_inj hN).mp (e1.trans e2.symm)
theorem nV {M:Model} {A:Around} {E:Value->Shared->Prop} {i:Nat} {x:Str} {v:V} {u:Value} {Q:Unit->Shared->Prop} (I:Inv X pins σ H s) (hN:X.N.Nodup) (hi:X.N[i]?=some x) (hx:Loc X.env.scope x) (r:RelV v u)
    (h:∀ s',Inv X pins (σ.set i (some v)) H s'->(∃ a,Heap.SameBut a s.heap s'.heap/\(a=X.env.locals \/ X.env.cells.lookup x=some a))->Q () s') (hf:X.fn x=true \/ X.env.scope.names.lookup x=some .local:=by first | exact .inl rfl | exact .inr rfl | assumption):wpAny M A (storeName X.env x u) Q E s:=by
 obtain ⟨m,hn,hl⟩:=id I.loc
 have hcls:(X.env.scope.kind == .class || (X.env.scope.kind == .module && X.env.locals != X.env.globals))=false:=by rw [I.ok.kind];rfl
 have hiσ:i < σ.length:=by rw [I.len];exact (List.getElem?_eq_some_iff.mp hi).1
 have cne:=I.cne
 have tracked:∀ {a:Addr} {h':Heap},(∃ o,s.heap.get? a=some o/\H a=none)->Heap.SameBut a s.heap h'->HOk X.prog X.w H h':=fun {a h'} ha hs b ob e=>by
  obtain ⟨_,_,hfree⟩:=ha
  refine (I.hok b ob e).stay (fun c w' hc q=>(hs.2 c ?_).trans q) (fun _ q=>q) fun _ _ q=>q
  rintro rfl
  rcases hc with rfl | hc
  ·rw [hfree] at e;cases e
  ·rw [hfree] at hc;cases hc
 rcases hx with hk | hk
 ·refine wpAny_storeName_local hk hn (fun h' hn' hs=>?_) hcls
  obtain ⟨oL,_,_,hoL,_⟩:=id hn
  refine h _ ⟨I.ok,I.os,I.bare,⟨fun b o e n hb hx=>?_,fun b o e n hb hx=>?_,I.base.free,fun b o e hx=>?_,I.base.tups,I.base.frzs,I.base.tbls⟩,⟨_,hn',fun j y v' e1 e2 e3=>?_⟩,fun y c e=>?_,I.free,I.freeC,fun p hp=>?_,tracked ⟨oL,hoL,I.free⟩ hs,by simpa using I.len⟩ ⟨_,hs,.inl rfl⟩
  ·exact (hs.2 b (Nat.ne_of_lt (Nat.lt_of_lt_of_le (Heap.lt_size e) I.ok.above))).trans (I.base.keep b o e n hb hx)
  ·obtain ⟨sl,e1⟩:=I.base.slot b o e n hb hx
   exact ⟨sl,(hs.2 b (Nat.ne_of_lt (Nat.lt_of_lt_of_le (Heap.lt_size e) I.ok.above))).trans e1⟩
  ·obtain ⟨o',e1⟩:=I.base.there b o e hx
   exact ⟨o',(hs.2 b (Nat.ne_of_lt (Nat.lt_of_lt_of_le (Heap.lt_size e) I.ok.above))).trans e1⟩
  ·by_cases hj:j=i
   ·subst hj
    rw [hi] at e1;cases e1
    rw [List.getElem?_set_self hiσ] at e2
    cases e2
    exact ⟨u,r,.inl ⟨hk,by simp⟩⟩
   ·rw [List.getElem?_set_ne (Ne.symm hj)] at e2
    obtain ⟨u',r',q⟩:=hl j y v' e1 e2 e3
    refine ⟨u',r',?_⟩
    rcases q with ⟨k,e⟩ | ⟨k,c,e,z⟩
    ·refine .inl ⟨k,?_⟩
     have:y ≠ x:=fun e=>hj (o9 hN e1 (e ▸ hi))
     simp [this,e]
    ·exact .inr ⟨k,c,e,z.sameBut hs (cne y c e)⟩
  ·obtain ⟨w',z⟩:=I.cell y c e
   exact ⟨w',z.sameBut hs (cne y c e)⟩
  ·obtain ⟨e,n,ne,nf,d⟩:=I.pin p hp
   exact ⟨(hs.2 p.1 ne).trans e,n,ne,nf,d⟩
 ·have hfn:X.fn x=true:=by
     rcases hf with z | z
     ·exact z
     ·rw [z] at hk;cases hk
  obtain ⟨c,hc⟩:=I.ok.has x (.inl hk)
  obtain ⟨w',z⟩:=I.cell x c hc
  refine wpAny_storeName_cell I.ok.kind hk hc z (fun h' hc' hs=>?_)
  obtain ⟨oc,hoc,hocd⟩:=id z
  refine h { s with heap:=h' } ⟨I.ok,I.os,I.bare,⟨fun b o e n hb hx=>?_,fun b o e n hb hx=>?_,I.base.free,fun b o e hx=>?_,I.base.tups,I.base.frzs,I.base.tbls⟩,⟨m,hn.sameBut hs (Ne.symm (cne x c hc)),fun j y v' e1 e2 e3=>?_⟩,fun y c' e=>?_,I.free,I.freeC,fun p hp=>?_,tracked ⟨oc,hoc,I.freeC x c hc⟩ hs,by simpa using I.len⟩ ⟨c,hs,.inr hc⟩
  ·exact (hs.2 b (Nat.ne_of_lt (Nat.lt_of_lt_of_le (Heap.lt_size e) (I.ok.cab x c hfn hc)))).trans (I.base.keep b o e n hb hx)
  ·obtain ⟨sl,e1⟩:=I.base.slot b o e n hb hx
   exact ⟨sl,(hs.2 b (Nat.ne_of_lt (Nat.lt_of_lt_of_le (Heap.lt_size e) (I.ok.cab x c hfn hc)))).trans e1⟩
  ·obtain ⟨o',e1⟩:=I.base.there b o e hx
   exact ⟨o',(hs.2 b (Nat.ne_of_lt (Nat.lt_of_lt_of_le (Heap.lt_size e) (I.ok.cab x c hfn hc)))).trans e1⟩
  ·by_cases hj:j=i
   ·subst hj
    rw [hi] at e1;cases e1
    rw [List.getElem?_set_self hiσ] at e2
    cases e2
    exact ⟨u,r,.inr ⟨.inl hk,c,hc,hc'⟩⟩
   ·rw [List.getElem?_set_ne (Ne.symm hj)] at e2
    obtain ⟨u',r',q⟩:=hl j y v' e1 e2 e3
    refine ⟨u',r',?_⟩
    rcases q with q | ⟨k,c',e,z'⟩
    ·exact .inl q
    ·refine .inr ⟨k,c',e,z'.sameBut hs ?_⟩
     rintro rfl
     exact hj (o9 hN e1 (I.ok.inj _ _ _ e hc ▸ hi))
  ·by_cases hcc:c'=c
   ·subst hcc;exact ⟨_,hc'⟩
   ·obtain ⟨w2,z2⟩:=I.cell y c' e
    exact ⟨w2,z2.sameBut hs hcc⟩
  ·obtain ⟨e,n,ne,nf,d⟩:=I.pin p hp
   refine ⟨(hs.2 p.1 ?_).trans e,n,ne,nf,d⟩
   intro q
   rw [q,hoc] at e
   have q':oc=p.2:=Option.some.inj e
   exact d w' (by rw [<- q'];exact hocd)
theorem jz {M:Model} {A:Around} {E:Value->Shared->Prop} {i:Nat} {x:Str} {v:V} {u:Value} {Q:Unit->Shared->Prop} (I:Inv X pins σ H s) (hN:X.N.Nodup) (hi:X.N[i]?=some x) (hx:Loc X.env.scope x) (r:RelV v u)
    (h:∀ s',Inv X pins (σ.set i (some v)) H s'->Q () s') (hf:X.fn x=true \/ X.env.scope.names.lookup x=some .local:=by first | exact .inl rfl | exact .inr rfl | assumption):wpAny M A (storeName X.env x u) Q E s:=
 nV I hN hi hx r (fun s' I' _=>h s' I') hf
theorem Inv.call' {s':Shared} {ch:List Addr} (I:Inv X pins σ H s) (ho:s'.os=s.os) (u:Un (frs X.stack) ch H H' s.heap s'.heap) (hok:HOk X.prog X.w H' s'.heap) (hg:AllBare s'.gens)
    (hch:∀ b ∈ ch,(b ∈ X.ex \/ X.s₀.heap.objs.size <= b)/\b ≠ X.env.locals/\(∀ x c,X.env.cells.lookup x=some c->c ≠ b)/\∀ p ∈ X.pn ++ pins,p.1 ≠ b):Inv X pins σ H' s':=by
 obtain ⟨h',g',d',t',o'⟩:=s'
 have e:o'=s.os:=ho
 subst e
 exact I.call (g':=g') (t':=t') (d':=d') u hok hg hch
end
abbrev XK:=Value->Option Addr->Hp->Prop
abbrev St:=List (Option V)
abbrev VK:=V->Hp->Prop
abbrev TE:=St->Hp->VK->Prop
abbrev TT:=St->Hp->(Bool->Hp->Prop)->Prop
abbrev TA:=St->Hp->(List V->Hp->Prop)->Prop
structure Ends where
 nx:St->Hp->Prop
 rt:VK
 bk:St->Hp->Prop:=fun _ _=>False
 ct:St->Hp->Prop:=fun _ _=>False
abbrev TS:=Ends->St->Hp->Prop
def EP (X:Cx) (pins:List (Addr × Obj)) (σ:St) (Q:VK) (u:Value) (s':Shared):Prop:=∃ v H',Inv X pins σ H' s'/\RelV v u/\Q v H'
def TP (X:Cx) (pins:List (Addr × Obj)) (σ:St) (Q:Bool->Hp->Prop) (b:Bool) (s':Shared):Prop:=∃ H',Inv X pins σ H' s'/\Q b H'
def AP (X:Cx) (pins:List (Addr × Obj)) (σ:St) (Q:List V->Hp->Prop) (us:List Value) (s':Shared):Prop:=∃ vs H',Inv X pins σ H' s'/\Vals vs us/\Q vs H'
def SP (X:Cx) (pins:List (Addr × Obj)) (D:Ends) (f:Flow) (s':Shared):Prop:=
 match f with
 | .next=>∃ σ' H',Inv X pins σ' H' s'/\D.nx σ' H'
 | .brk=>∃ σ' H',Inv X pins σ' H' s'/\D.bk σ' H'
 | .cont=>∃ σ' H',Inv X pins σ' H' s'/\D.ct σ' H'
 | .ret u=>∃ v σ' H',Inv X pins σ' H' s'/\RelV v u/\D.rt v H'
def PE (X:Cx) (e:Expr) (t:TE):Prop:=
 ∀ (pins:List (Addr × Obj)) (s:Shared) (σ:St) (H:Hp) (Q:VK),Inv X pins σ H s->t σ H Q->wpAny (model X.prog X.w) X.A (eval e X.env) (EP X pins σ Q) X.xe s
def PT (X:Cx) (e:Expr) (t:TT):Prop:=
 ∀ (pins:List (Addr × Obj)) (s:Shared) (σ:St) (H:Hp) (Q:Bool->Hp->Prop),Inv X pins σ H s->t σ H Q->wpAny (model X.prog X.w) X.A (isTrue e X.env (eval e X.env)) (TP X pins σ Q) X.xe s
def PW (X:Cx) (e:Expr) (t:TT):Prop:=
 ∀ (whole:Sem Value) (pins:List (Addr × Obj)) (s:Shared) (σ:St) (H:Hp) (Q:Bool->Hp->Prop),Inv X pins σ H s->t σ H Q->wpAny (model X.prog X.w) X.A (isTrue e X.env whole) (TP X pins σ Q) X.xe s
theorem PW.pt {X:Cx} {e:Expr} {t:TT} (h:PW X e t):PT X e t:=h _
def PA (X:Cx) (es:List Expr) (t:TA):Prop:=
 ∀ (pos:Pos) (pins:List (Addr × Obj)) (s:Shared) (σ:St) (H:Hp) (Q:List V->Hp->Prop),Inv X pins σ H s->t σ H Q->wpAny (model X.prog X.w) X.A (spliced (backTo pos (starEach es X.env))) (AP X pins σ Q) X.xe s
def PS (X:Cx) (st:Stmt) (t:TS):Prop:=
 ∀ (pins:List (Addr × Obj)) (s:Shared) (σ:St) (H:Hp) (D:Ends),Inv X pins σ H s->t D σ H->wpAny (model X.prog X.w) X.A (exec st X.env) (SP X pins D) X.xe s
def PSs (X:Cx) (st:List Stmt) (t:TS):Prop:=
 ∀ (pins:List (Addr × Obj)) (s:Shared) (σ:St) (H:Hp) (D:Ends),Inv X pins σ H s->t D σ H->wpAny (model X.prog X.w) X.A (execs st X.env) (SP X pins D) X.xe s
theorem thn {α:Type} {t:Sem α} {Q Q':α->Shared->Prop} {M:Model} {A:Around} {E:Value->Shared->Prop} {s:Shared} (h:wpAny M A t Q E s) (hQ:∀ a s,Q a s->Q' a s):wpAny M A t Q' E s:=wpAny_mono h hQ fun _ _ x=>x
section
variable {X:Cx}
def xW (i:Nat):TE:=fun σ H Q=>∃ v,σ[i]?=some (some v)/\Q v H
def tC (v:V):TE:=fun _ H Q=>Q v H
theorem xX {i:Nat} {x:Str} {pos:Pos} (hN:X.N[i]?=some x) (hv:Vis X.env.scope x) (hd:(x == ("__debug__" : Str))=false:=by decide) (hcd:(x == ("__classdict__" : Str))=false:=by decide):PE X (.Name x pos) (xW i):=by
 intro pins s σ H Q I h
 obtain ⟨v,e,h⟩:=h
 obtain ⟨m,hn,hl⟩:=I.loc
 obtain ⟨u,r,l⟩:=hl i x v hN e hv
 have fin:EP X pins σ Q u s:=⟨v,H,I,r,h⟩
 rcases l with ⟨hk,hm⟩ | ⟨hk,c,hc,hcell⟩
 ·exact wpAny_Name (wpAny_loadName_local I.ok.kind hk hn hm fin) hd
 ·rcases hk with hk | hk
  ·exact wpAny_Name (wpAny_loadName_cell I.ok.kind hk hc hcell fin) hd
  ·exact wpAny_Name (wpAny_loadName_free I.ok.kind hk hc hcell fin hcd) hd
theorem xY {i j pos}:PE X (.Constant (.int i) j pos) (tC (.int i)):=fun _ _ _ H _ I h=>wpAny_Constant_int ⟨.int i,H,I.tok _,⟨_,rfl⟩,h⟩
theorem wo {b j pos}:PE X (.Constant (.bool b) j pos) (tC (.bl b)):=fun _ _ _ H _ I h=>Constant_bool ⟨.bl b,H,I,rfl,h⟩
theorem xZ {j pos}:PE X (.Constant .none j pos) (tC .non):=fun _ _ _ H _ I h=>Constant_none ⟨.non,H,I,rfl,h⟩
theorem sR {x j pos}:PE X (.Constant (.str x) j pos) (tC (.str x)):=fun _ _ _ H _ I h=>Calls.Constant_str ⟨.str x,H,I.tok _,⟨_,rfl⟩,h⟩
def Gl (X:Cx) (x:Str):Prop:=X.env.kindOf x=some .globalImplicit
theorem kQ {E:Value->Shared->Prop} {pins:List (Addr × Obj)} {s:Shared} {σ:St} {H:Hp} {x:Str} {u:Value} {pos:Pos} {Q:Value->Shared->Prop} (I:Inv X pins σ H s) (hg:Gl X x) (hm:X.mg x=some u) (h:Q u s)
    (hd:(x == ("__debug__" : Str))=false:=by decide):wpAny (model X.prog X.w) X.A (eval (.Name x pos) X.env) Q E s:=
 Calls.Name_function_global I.ok.kind hg (Calls.loadGlobal_global (by rw [I.ok.glob];exact I.mod.glob.keeps I.bk) hm h) hd
theorem iD {E:Value->Shared->Prop} {pins:List (Addr × Obj)} {s:Shared} {σ:St} {H:Hp} {x:Str} {u:Value} {pos:Pos} {Q:Value->Shared->Prop} (I:Inv X pins σ H s) (hg:Gl X x) (hm:X.mg x=none) (hv:bootBuiltins x=some u) (h:Q u s)
    (hn:x ≠ "__name__" := by decide) (hd:(x == ("__debug__" : Str))=false:=by decide):wpAny (model X.prog X.w) X.A (eval (.Name x pos) X.env) Q E s:=by
 obtain ⟨mb,h1,h2⟩:=I.mod.blt
 exact Calls.Name_function_global I.ok.kind hg (Calls.loadGlobal_builtin (by rw [I.ok.glob];exact I.mod.glob.keeps I.bk) hm (by rw [I.ok.blt];exact h1.keeps I.bk) ((h2 x hn).trans hv) h) hd
theorem wI {x:Str} {v:V} {u:Value} {pos:Pos} (hg:Gl X x) (hm:X.mg x=some u) (r:RelV v u) (hd:(x == ("__debug__" : Str))=false:=by decide):PE X (.Name x pos) (tC v):=
 fun _ _ _ H _ I h=>kQ I hg hm ⟨v,H,I,r,h⟩ hd
theorem wJ {x:Str} {v:V} {u:Value} {pos:Pos} (hg:Gl X x) (hm:X.mg x=none) (hv:bootBuiltins x=some u) (r:RelV v u) (hn:x ≠ "__name__" := by decide) (hd:(x == ("__debug__" : Str))=false:=by decide):PE X (.Name x pos) (tC v):=
 fun _ _ _ H _ I h=>iD I hg hm hv ⟨v,H,I,r,h⟩ hn hd
variable {a b:Expr} {ta tb:TE} {pos:Pos}
def tB (t:TE):TT:=fun σ H Q=>t σ H fun x H1=>∃ c,x=.bl c/\Q c H1
theorem ya {e:Expr} {t:TE} (h:PE X e t) (he:∀ whole,isTrue e X.env whole=(do let v <- whole;standAt e.pos;holding [v] (truthy v)):=by intro _;rfl):PT X e (tB t):=by
 intro pins s σ H Q I hw
 refine isTrue_plain (thn (h pins s σ H _ I hw) fun v s1 ⟨x,H1,I1,r1,q1⟩=>?_) (he _)
 obtain ⟨d,rfl,q⟩:=q1
 cases r1
 exact wpAny_truthy_bool ⟨H1,I1,q⟩
variable {tA tB':TT} {rest:List Expr}
def Cp (t u:TT):TT:=fun σ H Q=>t σ H fun c H1=>if c=true then u σ H1 Q else Q false H1
def tOr (t u:TT):TT:=fun σ H Q=>t σ H fun c H1=>if c=true then Q true H1 else u σ H1 Q
def Cq (t:TT):TT:=fun σ H Q=>t σ H fun c H1=>Q (!c) H1
theorem wK (ha:PT X a tA):PW X (.BoolOp .And [a] pos) tA:=by
 intro wh pins s σ H Q I h
 refine isTrue_and (thn (ha pins s σ H Q I h) fun c s1 e=>?_)
 cases c with
 | true=>exact isTrue_and_nil e
 | false=>exact e
theorem yb (ha:PT X a tA):PW X (.BoolOp .Or [a] pos) tA:=by
 intro wh pins s σ H Q I h
 refine isTrue_or (thn (ha pins s σ H Q I h) fun c s1 e=>?_)
 cases c with
 | false=>exact isTrue_or_nil e
 | true=>exact e
theorem yc (ha:PT X a tA) (hb:PW X (.BoolOp .And (b::rest) pos) tB'):PW X (.BoolOp .And (a::b::rest) pos) (Cp tA tB'):=by
 intro wh pins s σ H Q I h
 refine isTrue_and (thn (ha pins s σ H _ I h) fun c s1 ⟨H1,I1,q1⟩=>?_)
 cases c with
 | true=>exact hb wh pins s1 σ H1 Q I1 q1
 | false=>exact ⟨H1,I1,q1⟩
theorem zJ (ha:PT X a tA) (hb:PW X (.BoolOp .Or (b::rest) pos) tB'):PW X (.BoolOp .Or (a::b::rest) pos) (tOr tA tB'):=by
 intro wh pins s σ H Q I h
 refine isTrue_or (thn (ha pins s σ H _ I h) fun c s1 ⟨H1,I1,q1⟩=>?_)
 cases c with
 | true=>exact ⟨H1,I1,q1⟩
 | false=>exact hb wh pins s1 σ H1 Q I1 q1
theorem yd (ha:PT X a tA):PT X (.UnaryOp .Not a pos) (Cq tA):=by
 intro pins s σ H Q I h
 exact isTrue_not (ha pins s σ H (fun c H1=>Q (!c) H1) I h)
def zK (ta tb:TE):TE:=fun σ H Q=>ta σ H fun x H1=>∃ c,x=.bl c/\if c=true then tb σ H1 Q else Q (.bl false) H1
theorem ye {op} {t:TE} (h:PE X a t):PE X (.BoolOp op [a] pos) t:=fun pins s σ H Q I hw=>BoolOp_one (h pins s σ H Q I hw)
theorem yf (ha:PE X a ta) (hb:PE X (.BoolOp .And (b::rest) pos) tb):PE X (.BoolOp .And (a::b::rest) pos) (zK ta tb):=by
 intro pins s σ H Q I h
 refine BoolOp_and (thn (ha pins s σ H _ I h) fun v s1 ⟨x,H1,I1,r1,q1⟩=>?_)
 obtain ⟨c,rfl,q1⟩:=q1
 cases r1
 refine wpAny_truthy_bool ?_
 cases c with
 | true=>exact hb pins s1 σ H1 Q I1 q1
 | false=>exact ⟨.bl false,H1,I1,rfl,q1⟩
def tIf (t:TT) (ta tb:TE):TE:=fun σ H Q=>t σ H fun c H1=>if c=true then ta σ H1 Q else tb σ H1 Q
theorem uW {c:Expr} (hc:PT X c tA) (ha:PE X a ta) (hb:PE X b tb):PE X (.IfExp c a b pos) (tIf tA ta tb):=by
 intro pins s σ H Q I h
 refine wpAny_IfExp (thn (hc pins s σ H _ I h) fun d s1 ⟨H1,I1,q1⟩=>?_)
 cases d with
 | true=>exact ha pins s1 σ H1 Q I1 q1
 | false=>exact hb pins s1 σ H1 Q I1 q1
end
def SqL (K:PySem.W.Frag) (H:Hp) (a:Addr) (xs:List V):Prop:=
 Rd H a (.lst xs) ∨
  ∃ (o:Obj) (its:Array Value) (n:Nat),K.lookup a=some o/\o.cls=.type "list" /\ o.dict=none/\o.data=.seq its n/\its.size <= sizeLine/\Vals xs its.toList
def SqT (K:PySem.W.Frag) (H:Hp) (a:Addr) (xs:List V):Prop:=
 Rd H a (.tup xs) ∨
  ∃ (o:Obj) (its:Array Value) (n:Nat),K.lookup a=some o/\o.cls=.type "tuple" /\ o.data=.seq its n/\its.size <= sizeLine/\Vals xs its.toList
def Cr:Value->Option V
 | .none=>some .non
 | .bool b=>some (.bl b)
 | .int i _=>some (.int i)
 | .str x _=>some (.str x)
 | .bytes b _=>some (.byt b)
 | .float b _=>some (.flt b)
 | .ref a=>some (.ref a)
 | .type n=>some (.ty n)
 | _=>none
theorem RelV.abs {x:V} {u:Value} (r:RelV x u):Cr u=some x:=by
 cases x with
 | non=>cases r;rfl
 | bl _=>cases r;rfl
 | int _=>obtain ⟨t,rfl⟩:=r;rfl
 | str _=>obtain ⟨t,rfl⟩:=r;rfl
 | byt _=>obtain ⟨t,rfl⟩:=r;rfl
 | flt _=>obtain ⟨t,rfl⟩:=r;rfl
 | ref _=>cases r;rfl
 | ty _=>cases r;rfl
theorem RelV.inj {x y:V} {u:Value} (r:RelV x u) (q:RelV y u):x=y:=Option.some.inj (r.abs.symm.trans q.abs)
theorem Vals.inj:∀ {xs ys:List V} {us:List Value},Vals xs us->Vals ys us->xs=ys
 | _,_,_,.nil,.nil=>rfl
 | _,_,_,.cons r t,.cons r' t'=>by rw [r.inj r',Vals.inj t t']
section
variable {X:Cx} {pins:List (Addr × Obj)} {σ:St} {H:Hp} {s:Shared} {a:Addr} {xs ys:List V}
theorem SqL.of {K:PySem.W.Frag} (h:H a=some (.lst xs)):SqL K H a xs:=.inl (.inl h)
theorem SqT.of {K:PySem.W.Frag} (h:H a=some (.tup xs)):SqT K H a xs:=.inl (.inl h)
theorem Inv.list (I:Inv X pins σ H s) (h:SqL X.K H a xs):∃ its:List Value,Vals xs its/\PlainL s.heap a its.toArray/\xs.length <= sizeLine:=by
 rcases h with h | ⟨o,its,n,hk,hc,hd,hs,hz,r⟩
 ·obtain ⟨z,its,n,r,e⟩:=h.ok I.hok
  exact ⟨its,r,⟨_,n,e,rfl,rfl,rfl⟩,z⟩
 ·refine ⟨its.toList,r,⟨o,n,I.kIn a o hk,hc,hd,by simpa using hs⟩,?_⟩
  have e:=r.length
  simp only [Array.length_toList] at e
  omega
theorem Inv.tuple (I:Inv X pins σ H s) (h:SqT X.K H a xs):∃ its:List Value,Vals xs its/\IsTup s.heap a its.toArray/\xs.length <= sizeLine:=by
 rcases h with h | ⟨o,its,n,hk,hc,hs,hz,r⟩
 ·obtain ⟨z,its,r,p⟩:=h.ok I.hok
  exact ⟨its,r,p,z⟩
 ·refine ⟨its.toList,r,⟨o,I.kIn a o hk,hc,n,by simpa using hs⟩,?_⟩
  have e:=r.length
  simp only [Array.length_toList] at e
  omega
theorem Inv.list_inj (I:Inv X pins σ H s) (h:SqL X.K H a xs) (h':SqL X.K H a ys):xs=ys:=by
 obtain ⟨its,r,⟨o,n,e,_,_,d⟩,_⟩:=I.list h
 obtain ⟨its',r',⟨o',n',e',_,_,d'⟩,_⟩:=I.list h'
 rw [e] at e';cases e'
 rw [d] at d'
 injection d' with d1 _
 have:its=its':=by simpa using congrArg Array.toList d1
 subst this
 exact r.inj r'
theorem Inv.tuple_inj (I:Inv X pins σ H s) (h:SqT X.K H a xs) (h':SqT X.K H a ys):xs=ys:=by
 obtain ⟨its,r,⟨o,e,_,n,d⟩,_⟩:=I.tuple h
 obtain ⟨its',r',⟨o',e',_,n',d'⟩,_⟩:=I.tuple h'
 rw [e] at e';cases e'
 rw [d] at d'
 injection d' with d1 _
 have:its=its':=by simpa using congrArg Array.toList d1
 subst this
 exact r.inj r'
end
section
variable {X:Cx} {pins:List (Addr × Obj)} {σ:St} {H:Hp} {s:Shared} {E:Value->Shared->Prop}
end
section
variable {X:Cx} {st:Stmt} {rest:List Stmt} {t u:TS} {e:Expr} {te:TE} {pos:Pos}
def zL:TS:=fun D σ H=>D.nx σ H
def yg (t u:TS):TS:=fun D σ H=>t { D with nx:=u D } σ H
theorem wL:PSs X [] zL:=fun _ _ σ H _ I h=>wpAny_execs_nil ⟨σ,H,I,h⟩
theorem uX (h1:PS X st t) (h2:PSs X rest u):PSs X (st::rest) (yg t u):=by
 intro pins s σ H D I h
 refine wpAny_execs_cons (thn (h1 pins s σ H { D with nx:=u D } I h) fun f s1 q=>?_)
 cases f with
 | next =>
  obtain ⟨σ',H',I',q⟩:=q
  exact h2 pins s1 σ' H' D I' q
 | ret v=>exact q
 | brk=>exact q
 | cont=>exact q
theorem wM (h1:PS X st t):PSs X [st] t:=by
 intro pins s σ H D I h
 refine wpAny_execs_cons (thn (h1 pins s σ H D I h) fun f s1 q=>?_)
 cases f with
 | next=>exact wpAny_execs_nil q
 | ret v=>exact q
 | brk=>exact q
 | cont=>exact q
theorem Inv.quiet {pins:List (Addr × Obj)} {σ:St} {H:Hp} {s:Shared} (I:Inv X pins σ H s):interactive X.env=false:=by simp [interactive,I.ok.kind]
def zM (te:TE):TS:=fun D σ H=>te σ H fun _ H1=>D.nx σ H1
theorem kR (he:PE X e te) (hs:swapsWith e none pos.line X.env=pure false:=by rfl):PS X (.Expr e pos) (zM te):=by
 intro pins s σ H D I h
 exact wpAny_Expr_any (thn (he pins s σ H _ I h) fun v s1 ⟨x,H1,I1,r1,q1⟩=>⟨σ,H1,I1,q1⟩) I.quiet hs
def Cs (te:TE):TS:=fun D σ H=>te σ H D.rt
theorem sS (he:PE X e te):PS X (.Return (some e) pos) (Cs te):=by
 intro pins s σ H D I h
 exact wpAny_Return_some (thn (he pins s σ H _ I h) fun v s1 ⟨x,H1,I1,r1,q1⟩=>⟨x,σ,H1,I1,r1,q1⟩)
def Ct (c:TT) (t u:TS):TS:=fun D σ H=>c σ H fun b H1=>if b=true then t D σ H1 else u D σ H1
theorem zN {c:Expr} {a b:List Stmt} {tc:TT} (hc:PT X c tc) (ha:PSs X a t) (hb:PSs X b u):PS X (.If c a b pos) (Ct tc t u):=by
 intro pins s σ H D I h
 refine wpAny_If (thn (hc pins s σ H _ I h) fun d s1 ⟨H1,I1,q1⟩=>?_)
 cases d with
 | true=>exact ha pins s1 σ H1 D I1 q1
 | false=>exact hb pins s1 σ H1 D I1 q1
end
abbrev TG:=V->St->Hp->(St->Hp->Prop)->Prop
abbrev TGs:=List V->St->Hp->(St->Hp->Prop)->Prop
def PG (X:Cx) (target:Expr) (t:TG):Prop:=
 ∀ (pins:List (Addr × Obj)) (s:Shared) (σ:St) (H:Hp) (v:V) (u:Value) (Q:St->Hp->Prop),Inv X pins σ H s->RelV v u->t v σ H Q →
  wpAny (model X.prog X.w) X.A (assign target X.env u) (fun _ s'=>∃ σ' H',Inv X pins σ' H' s'/\Q σ' H') X.xe s
def PGs (X:Cx) (ts:List Expr) (t:TGs):Prop:=
 ∀ (pins:List (Addr × Obj)) (s:Shared) (σ:St) (H:Hp) (vs:List V) (us:List Value) (Q:St->Hp->Prop),Inv X pins σ H s->Vals vs us->t vs σ H Q →
  wpAny (model X.prog X.w) X.A (assignInOrder ((assignEach ts X.env).map (·.2)) us) (fun _ s'=>∃ σ' H',Inv X pins σ' H' s'/\Q σ' H') X.xe s
abbrev uY:=V->V->V->Hp->(Hp->Prop)->Prop
def uZ (X:Cx) (t:uY):Prop:=
 ∀ (pins:List (Addr × Obj)) (s:Shared) (σ:St) (H:Hp) (o i v:V) (ov iv u:Value) (Q:Hp->Prop),Inv X pins σ H s->RelV o ov->RelV i iv->RelV v u->t o i v H Q →
  wpAny (model X.prog X.w) X.A (setItem ov iv u) (fun _ s'=>∃ H',Inv X pins σ H' s'/\Q H') X.xe s
section
variable {X:Cx} {pos:Pos}
def oZ (i:Nat):TG:=fun v σ H Q=>Q (σ.set i (some v)) H
theorem qQ {i:Nat} {x:Str} (hN:X.N.Nodup) (hi:X.N[i]?=some x) (hx:Loc X.env.scope x) (hf:X.fn x=true \/ X.env.scope.names.lookup x=some .local:=by first | exact .inl rfl | exact .inr rfl | assumption):PG X (.Name x pos) (oZ i):=by
 intro pins s σ H v u Q I r h
 exact wpAny_assign_Name (jz I hN hi hx r (fun s' I'=>⟨_,H,I',h⟩) hf)
def Cu:TGs:=fun vs σ H Q=>vs=[]/\Q σ H
def zO (t:TG) (u:TGs):TGs:=fun vs σ H Q=>∃ v r,vs=v::r/\t v σ H fun σ' H'=>u r σ' H' Q
theorem wN:PGs X [] Cu:=by
 intro pins s σ H vs us Q I r h
 obtain ⟨e,h⟩:=h
 subst e
 cases r
 exact assignInOrder_nil ⟨σ,H,I,h⟩
theorem u6 {e:Expr} {es:List Expr} {t:TG} {u:TGs} (h1:PG X e t) (h2:PGs X es u)
    (hs:(assignEach (e::es) X.env).map (·.2)=assign e X.env::(assignEach es X.env).map (·.2):=by rfl):PGs X (e::es) (zO t u):=by
 intro pins s σ H vs us Q I r h
 obtain ⟨v,vr,e1,h⟩:=h
 subst e1
 cases r with
 | cons r rr =>
  rw [hs]
  refine assignInOrder_cons (thn (h1 pins s σ H _ _ _ I r h) fun _ s1 ⟨σ1,H1,I1,q1⟩=>?_)
  exact h2 pins s1 σ1 H1 _ _ Q I1 rr q1
def Cv (K:PySem.W.Frag) (n:Nat) (t:TGs):TG:=fun v σ H Q=>∃ a xs,v=.ref a/\SqT K H a xs/\xs.length=n/\t xs σ H Q
theorem yh {es:List Expr} {k:Nat} {t:TGs} {n:Nat} (hc:X.calm=true) (h:PGs X es t)
    (hn:(assignEach es X.env).length=n:=by rfl) (hst:(assignEach es X.env).findIdx? (·.1)=none:=by rfl):PG X (.Tuple es k pos) (Cv X.K n t):=by
 intro pins s σ H v u Q I r hw
 obtain ⟨a,xs,e1,hq,hl,hw⟩:=hw
 subst e1
 cases r
 obtain ⟨its,rv,ht,hz⟩:=I.tuple hq
 refine assign_Tuple_tuple (I.ok.hd hc) ht (by simp [hn,<- hl,rv.length]) hst fun h' hx=>?_
 have I1:Inv X pins σ H { s with heap:=h' }:=I.kept (t':=s.toks) fun b o e=>hx b o (Nat.ne_of_lt (Heap.lt_size e)) e
 exact h pins _ σ H xs _ Q I1 (by simpa using rv) hw
def Cw (to ti:TE) (t:uY):TG:=fun v σ H Q=>to σ H fun o H1=>ti σ H1 fun i H2=>t o i v H2 fun H3=>Q σ H3
theorem sT {o i:Expr} {to ti:TE} {t:uY} (ho:PE X o to) (hi:PE X i ti) (hs:uZ X t)
    (ha:∀ v,assign (.Subscript o i pos) X.env v=(do
     let ov <- holding [v] (eval o X.env)
     let iv <- holding [v,ov] (eval i X.env)
     standAt pos
     holding [v,ov,iv] (setItem ov iv v)
     release [v,ov,iv] []):=by intro _;rfl):PG X (.Subscript o i pos) (Cw to ti t):=by
 intro pins s σ H v u Q I r h
 rw [ha]
 refine wpAny_bind (wpAny_holding (thn (ho pins s σ H _ I h) fun ov s1 ⟨x,H1,I1,r1,q1⟩=>?_))
 refine wpAny_bind (wpAny_holding (thn (hi pins s1 σ H1 _ I1 q1) fun iv s2 ⟨y,H2,I2,r2,q2⟩=>?_))
 refine wpAny_bind (wpAny_standAt (wpAny_bind (wpAny_holding (thn (hs pins s2 σ H2 x y v ov iv u _ I2 r1 r2 r q2) fun _ s3 ⟨H3,I3,q3⟩=>?_))))
 exact wpAny_release ⟨σ,H3,I3,q3⟩
def u7 (te:TE) (g:TG):TS:=fun D σ H=>te σ H fun x H1=>g x σ H1 D.nx
theorem sU {tg e:Expr} {te:TE} {g:TG} (he:PE X e te) (hg:PG X tg g) (hs:swapsWithSole [tg] e pos.line X.env=pure false:=by rfl) (hw:swappedStores [tg] e X.env=pure none:=by rfl)
    (h1:(assignEach [tg] X.env).map (·.2)=[assign tg X.env]:=by rfl):PS X (.Assign [tg] e pos) (u7 te g):=by
 intro pins s σ H D I h
 refine wpAny_Assign_stores (thn (he pins s σ H _ I h) fun v s1 ⟨x,H1,I1,r1,q1⟩=>?_) hs hw
 rw [h1]
 exact thn (hg pins s1 σ H1 x v _ I1 r1 q1) fun _ s2 q=>q
theorem yi {i:Nat} {x:Str} {e:Expr} {te:TE} {pos':Pos} (hN:X.N.Nodup) (hi:X.N[i]?=some x) (hx:Loc X.env.scope x) (he:PE X e te) (hs:swapsWith e (some (.Name x pos')) pos.line X.env=pure false:=by rfl) (hf:X.fn x=true \/ X.env.scope.names.lookup x=some .local:=by first | exact .inl rfl | exact .inr rfl | assumption) :
    PS X (.Assign [.Name x pos'] e pos) (u7 te (oZ i)):=by
 intro pins s σ H D I h
 refine wpAny_Assign_Name (thn (he pins s σ H _ I h) fun v s1 ⟨y,H1,I1,r1,q1⟩=>?_) hs
 exact jz I1 hN hi hx r1 (fun s2 I2=>⟨_,H1,I2,q1⟩) hf
def Cy (i j:Nat) (ta:TA):TS:=fun D σ H=>ta σ H fun vs H1=>∃ v w,vs=[v,w]/\D.nx ((σ.set i (some v)).set j (some w)) H1
theorem yj {i j:Nat} {x y:Str} {a b:Expr} {ta:TA} {px py pt:Pos} {kt k2 pt2} (hc:X.calm=true) (hN:X.N.Nodup) (hi:X.N[i]?=some x) (hj:X.N[j]?=some y) (hij:i ≠ j)
    (hx:X.env.scope.names.lookup x=some .local) (hy:X.env.scope.names.lookup y=some .local) (ha:PA X [a,b] ta)
    (hw:swappedStores [.Tuple [.Name x px,.Name y py] kt pt] (.Tuple [a,b] k2 pt2) X.env=pure (some [x,y]))
    (hs:swapsWithSole [.Tuple [.Name x px,.Name y py] kt pt] (.Tuple [a,b] k2 pt2) pos.line X.env=pure false:=by rfl) :
    PS X (.Assign [.Tuple [.Name x px,.Name y py] kt pt] (.Tuple [a,b] k2 pt2) pos) (Cy i j ta):=by
 intro pins s σ H D I h
 rw [exec_Assign_arm]
 refine wpAny_bind (wpAny_standAt ?_)
 rw [hs]
 refine wpAny_bind (wpAny_pure ?_)
 rw [if_neg (by decide)]
 refine wpAny_bind (Tuple_ (thn (ha _ pins s σ H _ I h) fun us s1 ⟨vs,H1,I1,r1,q1⟩=>?_))
 obtain ⟨v,w,e1,q1⟩:=q1
 subst e1
 obtain ⟨u1,u2,rfl,rv,rw'⟩:∃ u1 u2,us=[u1,u2]/\RelV v u1/\RelV w u2:=by
  cases r1 with
  | cons p q =>
   cases q with
   | cons p' q' =>
    cases q'
    exact ⟨_,_,rfl,p,p'⟩
 refine wpAny_newObj_type ?_ (by show 2 <= sizeLine;decide)
 have I2:Inv X pins σ H1 { s1 with heap:=s1.heap.push { cls:=.type "tuple", data:=.seq [u1,u2].toArray } }:=I1.kept (t':=s1.toks) fun b o e=>Heap.get?_push_of_some _ e
 rw [hw]
 refine wpAny_bind (wpAny_pure ?_)
 show wpAny (model X.prog X.w) X.A (do rule "assign.swapped-stores"; let items <- unpackItems (.ref s1.heap.objs.size) 2 none;assignInOrder [fun v=>bindName X.env y v,fun v=>bindName X.env x v] items.reverse;pure Flow.next) _ _ _
 refine wpAny_bind (wpAny_rule (wpAny_bind (unpackItems_tuple (items:=#[u1,u2]) (I.ok.hd hc) (IsTup.new s1.heap _) fun h' hx'=>?_)))
 have I3:=I2.kept (h':=h') (t':=s1.toks) fun b o e=>hx' b o (Nat.ne_of_lt (Heap.lt_size e)) e
 show wpAny _ _ (assignInOrder [fun v=>bindName X.env y v,fun v=>bindName X.env x v] [u2,u1] >>= fun _=>pure Flow.next) _ _ _
 refine wpAny_bind (assignInOrder_cons (wpAny_bindName (jz I3 hN hj (.inl hy) rw' (fun s2 I4=>?_) (.inr hy))))
 refine assignInOrder_cons (wpAny_bindName (jz I4 hN hi (.inl hx) rv (fun s3 I5=>assignInOrder_nil (wpAny_pure ?_)) (.inr hx)))
 rw [List.set_comm _ _ (Ne.symm hij)] at I5
 exact ⟨_,H1,I5,q1⟩
end
section
variable {X:Cx} {pos:Pos}
end
structure It where
 go:Nat->Hp->Prop
 yld:Nat->Hp->V->Hp->Prop
 stop:Nat->Hp->Prop
def gA (X:Cx) (pins:List (Addr × Obj)) (H:Hp) (b:Addr):Prop:=
 H b=none/\b ≠ X.env.locals/\b ∉ X.fs/\(b ∈ X.ex \/ X.s₀.heap.objs.size <= b)/\(∀ x c,X.env.cells.lookup x=some c->c ≠ b)/\∀ p ∈ X.pn ++ pins,p.1 ≠ b
theorem Inv.fpOk {X:Cx} {pins:List (Addr × Obj)} {σ:St} {H H':Hp} {s:Shared} {b:Addr} (I:Inv X pins σ H s) (hb:s.heap.objs.size <= b) (hn:H' b=none):gA X pins H' b:=by
 refine ⟨hn,Nat.ne_of_gt (Nat.lt_of_lt_of_le I.lt hb),I.nofs hb,.inr (Nat.le_trans I.sz hb),fun x c e z=>?_,fun p hp z=>?_⟩
 ·obtain ⟨v,q⟩:=I.cell x c e
  exact absurd (Nat.lt_of_lt_of_le q.lt (by rw [z];exact hb)) (Nat.lt_irrefl _)
 ·exact absurd (Nat.lt_of_lt_of_le (Heap.lt_size (I.pin p hp).1) (by rw [z];exact hb)) (Nat.lt_irrefl _)
structure Turn (P:Program) (w:World) (K:PySem.W.Frag) (tg:Expr) (J:It) (fp:List Addr) (it:Addr) (tn:Nat->Heap->Prop):Prop where
 mem:it ∈ fp
 obj:∀ i h,tn i h->∀ b ∈ fp,∃ o,h.get? b=some o/\∀ v,o.data ≠ .cell v
 keep:∀ i h h',tn i h->(∀ b ∈ fp,∀ o,h.get? b=some o->h'.get? b=some o)->tn i h'
 item:∀ (X:Cx),X.prog=P->X.w=w->X.K=K->X.calm=true->∀ (i:Nat) (pins:List (Addr × Obj)) (s:Shared) (σ:St) (H:Hp) (E:Value->Shared->Prop),Inv X pins σ H s->(∀ b ∈ fp,gA X pins H b)->tn i s.heap->J.go i H →
  wpAny (model P w) X.A (pyNext (.ref it)) (fun r s1=>∃ u,r=some u ∧
   wpAny (model P w) X.A (letOwnedTupleGo tg (.ref it) u) (fun _ s2=>∃ x H',Inv X pins σ H' s2/\RelV x u/\J.yld i H x H'/\tn (i + 1) s2.heap/\∀ b ∈ fp,H' b=none) E s1) E s
 done:∀ (X:Cx),X.prog=P->X.w=w->X.K=K->X.calm=true->∀ (i:Nat) (pins:List (Addr × Obj)) (s:Shared) (σ:St) (H:Hp) (E:Value->Shared->Prop),Inv X pins σ H s->(∀ b ∈ fp,gA X pins H b)->tn i s.heap->J.stop i H →
  wpAny (model P w) X.A (pyNext (.ref it)) (fun r s1=>r=none/\Inv X pins σ H s1) E s
 self:∀ (A:Around) (i:Nat) (s:Shared) (Q:Value->Shared->Prop) (E:Value->Shared->Prop),tn i s.heap->Q (.ref it) s->wpAny (model P w) A (pyIter (.ref it)) Q E s
abbrev TI:=St->Hp->(It->Hp->Prop)->Prop
def PIE (X:Cx) (pins:List (Addr × Obj)) (σ:St) (tg:Expr) (R:It->Hp->Prop) (itv:Value) (s2:Shared):Prop:=
 ∃ (it:Addr) (fp:List Addr) (tn:Nat->Heap->Prop) (J:It) (H':Hp),itv=.ref it/\Inv X pins σ H' s2/\Turn X.prog X.w X.K tg J fp it tn/\tn 0 s2.heap/\(∀ b ∈ fp,gA X pins H' b)/\R J H'
def PI (X:Cx) (tg iter:Expr) (wi:TI):Prop:=
 ∀ (pins:List (Addr × Obj)) (s:Shared) (σ:St) (H:Hp) (R:It->Hp->Prop),Inv X pins σ H s->wi σ H R →
  wpAny (model X.prog X.w) X.A (eval iter X.env) (fun v s1=>wpAny (model X.prog X.w) X.A (pyIter v) (PIE X pins σ tg R) X.xe s1) X.xe s
theorem o0 {M:Model} {A:Around} {E:Value->Shared->Prop} {s:Shared} {tg:Expr} {it:Addr} {u:Value} {o:Obj} {n:String} {vs:Array Value} {Q:Unit->Shared->Prop} (ho:s.heap.get? it=some o) (hc:o.cls=.type n) (hd:o.data=.fields vs)
    (hn:["enumerate", "zip", "dict_itemiterator", "dict_reverseitemiterator", "odict_iterator", "itertools.zip_longest", "itertools.pairwise"].contains n=false) (hQ:Q () s):wpAny M A (letOwnedTupleGo tg (.ref it) u) Q E s:=by
 unfold letOwnedTupleGo
 cases tg <;> first
  | exact wpAny_pure hQ
  | (cases u <;> first
      | exact wpAny_pure hQ
      | (refine wpAny_bind (wpAny_load ho ?_)
         rw [hc,hd]
         show wpAny M A (if (["enumerate", "zip", "dict_itemiterator", "dict_reverseitemiterator", "odict_iterator", "itertools.zip_longest", "itertools.pairwise"].contains n && vs[0]? == some (rawInt _))=true then _ else _) Q E s
         rw [if_neg (by intro h;rw [hn,Bool.false_and] at h;cases h)]
         exact wpAny_pure hQ))
def Itl (K:PySem.W.Frag) (a:Addr):It:=
 ⟨fun i H=>∃ xs x,SqL K H a xs/\xs[i]?=some x,fun i H x H'=>H'=H/\∀ xs,SqL K H a xs->xs[i]?=some x,fun i H=>∃ xs,SqL K H a xs/\xs.length <= i⟩
def Itt (K:PySem.W.Frag) (a:Addr):It:=
 ⟨fun i H=>∃ xs x,SqT K H a xs/\xs[i]?=some x,fun i H x H'=>H'=H/\∀ xs,SqT K H a xs->xs[i]?=some x,fun i H=>∃ xs,SqT K H a xs/\xs.length <= i⟩
def Itr (lo:Int) (n:Nat):It:=⟨fun i _=>i < n,fun i H x H'=>H'=H/\x=.int (lo + i),fun i _=>n <= i⟩
theorem sV {P:Program} {w:World} {K:PySem.W.Frag} {tg:Expr} (a it:Addr):Turn P w K tg (Itl K a) [it] it (fun i h=>h.IsListIter it a i) where
 mem:=by simp
 obj:=fun i h st b hb=>by
  have e:b=it:=by simpa using hb
  subst e
  obtain ⟨o,e,c,d⟩:=st
  exact ⟨o,e,fun v z=>by rw [d] at z;cases z⟩
 keep:=fun i h h' st k=>st.at fun o e=>k it (by simp) o e
 item:=by
  intro X hP hw hK hc i pins s σ H E I hf st hg
  subst hP hw hK
  obtain ⟨xs,x,hq,hx⟩:=hg
  obtain ⟨its,rv,p,hz⟩:=I.list hq
  obtain ⟨u,hu,ru⟩:=rv.get hx
  obtain ⟨f0,f1,f2,f3,f4,f5⟩:=hf it (by simp)
  refine wpAny_pyNext_list_item st p.isList (x:=u) (by simpa using hu) fun h' st' sb=>?_
  have I1:Inv X pins σ H { s with heap:=h' }:=I.turned (t':=s.toks) (fun b o hb e=>(sb.2 b hb).trans e) f0 f1 f3 f4 f5
  obtain ⟨o,e,c,d⟩:=id st'
  exact ⟨u,rfl,o0 (s:={ s with heap:=h' }) e c d (by decide) ⟨x,H,I1,ru,⟨rfl,fun ys hy=>by rw [I.list_inj hy hq];exact hx⟩,st',fun b hb=>(hf b hb).1⟩⟩
 done:=by
  intro X hP hw hK hc i pins s σ H E I hf st hg
  subst hP hw hK
  obtain ⟨xs,hq,hx⟩:=hg
  obtain ⟨its,rv,p,hz⟩:=I.list hq
  obtain ⟨f0,f1,f2,f3,f4,f5⟩:=hf it (by simp)
  have hl:=rv.length
  exact wpAny_pyNext_list_end (I.ok.hd hc) st p.isList (by simp;omega) fun h' eb=>⟨rfl,I.turned (t':=s.toks) (fun b o hb e=>eb b o hb e) f0 f1 f3 f4 f5⟩
 self:=fun _ _ _ _ _ st h=>wpAny_pyIter_listiter st h
theorem rJ {P:Program} {w:World} {K:PySem.W.Frag} {tg:Expr} (a it:Addr):Turn P w K tg (Itt K a) [it] it (fun i h=>h.IsTupleIter it a i) where
 mem:=by simp
 obj:=fun i h st b hb=>by
  have e:b=it:=by simpa using hb
  subst e
  obtain ⟨o,e,c,d⟩:=st
  exact ⟨o,e,fun v z=>by rw [d] at z;cases z⟩
 keep:=fun i h h' st k=>st.at fun o e=>k it (by simp) o e
 item:=by
  intro X hP hw hK hc i pins s σ H E I hf st hg
  subst hP hw hK
  obtain ⟨xs,x,hq,hx⟩:=hg
  obtain ⟨its,rv,p,hz⟩:=I.tuple hq
  obtain ⟨u,hu,ru⟩:=rv.get hx
  obtain ⟨f0,f1,f2,f3,f4,f5⟩:=hf it (by simp)
  refine wpAny_pyNext_tuple_item st (show s.heap.IsTuple a its.toArray from p) (x:=u) (by simpa using hu) fun h' st' sb=>?_
  have I1:Inv X pins σ H { s with heap:=h' }:=I.turned (t':=s.toks) (fun b o hb e=>(sb.2 b hb).trans e) f0 f1 f3 f4 f5
  obtain ⟨o,e,c,d⟩:=id st'
  exact ⟨u,rfl,o0 (s:={ s with heap:=h' }) e c d (by decide) ⟨x,H,I1,ru,⟨rfl,fun ys hy=>by rw [I.tuple_inj hy hq];exact hx⟩,st',fun b hb=>(hf b hb).1⟩⟩
 done:=by
  intro X hP hw hK hc i pins s σ H E I hf st hg
  subst hP hw hK
  obtain ⟨xs,hq,hx⟩:=hg
  obtain ⟨its,rv,p,hz⟩:=I.tuple hq
  obtain ⟨f0,f1,f2,f3,f4,f5⟩:=hf it (by simp)
  have hl:=rv.length
  exact wpAny_pyNext_tuple_end (I.ok.hd hc) st (show s.heap.IsTuple a its.toArray from p) (by simp;omega) fun h' eb=>⟨rfl,I.turned (t':=s.toks) (fun b o hb e=>eb b o hb e) f0 f1 f3 f4 f5⟩
 self:=fun _ _ _ _ _ st h=>wpAny_pyIter_tupleiter st h
theorem rK {P:Program} {w:World} {K:PySem.W.Frag} {tg:Expr} (it:Addr) (lo:Int) (n:Nat):Turn P w K tg (Itr lo n) [it] it (fun i h=>IsRangeIter h it (lo + (i:Nat) * 1) ((n:Int) - (i:Nat)) 1) where
 mem:=by simp
 obj:=fun i h st b hb=>by
  have e:b=it:=by simpa using hb
  subst e
  exact ⟨_,st,fun v z=>by
   have z':Data.fields _=Data.cell v:=z
   cases z'⟩
 keep:=fun i h h' st k=>k it (by simp) _ st
 item:=by
  intro X hP hw hK hc i pins s σ H E I hf st hg
  subst hP hw hK
  obtain ⟨f0,f1,f2,f3,f4,f5⟩:=hf it (by simp)
  have W:=Walks.range (prog:=X.prog) (w:=X.w) (I.ok.hd hc) it lo 1 n
  refine W.item i s _ _ hg st fun v h' tk hv st' kk=>?_
  obtain ⟨t,rfl⟩:=hv
  have I1:Inv X pins σ H { s with heap:=h',toks:=tk }:=I.turned (fun b o hb e=>kk b o (by simpa using hb) e) f0 f1 f3 f4 f5
  refine ⟨_,rfl,o0 (s:={ s with heap:=h',toks:=tk }) (n := "range_iterator") st' rfl rfl (by decide) ⟨.int (lo + i),H,I1,⟨t,?_⟩,⟨rfl,rfl⟩,st',fun b hb=>(hf b hb).1⟩⟩
  rw [Int.mul_one]
 done:=by
  intro X hP hw hK hc i pins s σ H E I hf st hg
  subst hP hw hK
  obtain ⟨f0,f1,f2,f3,f4,f5⟩:=hf it (by simp)
  exact wpAny_pyNext_range_end (I.ok.hd hc) st (by have:n <= i:=hg;omega) fun h' eb=>⟨rfl,I.turned (t':=s.toks) (fun b o hb e=>eb b o hb e) f0 f1 f3 f4 f5⟩
 self:=fun _ _ _ _ _ st h=>wpAny_pyIter_rangeiter st h
section
variable {X:Cx} {tg:Expr}
theorem u8 {pins:List (Addr × Obj)} {σ:St} {H:Hp} {s:Shared} {R:It->Hp->Prop} {E:Value->Shared->Prop} {lo hi:Int} {t u v:Tok} {tk:Nat} (I:Inv X pins σ H s) (h1:-(2 ^ 62) <= lo) (h2:lo < 2 ^ 62) (h3:-(2 ^ 62) <= hi) (h4:hi < 2 ^ 62)
    (q:R (Itr lo (hi - lo).toNat) H):wpAny (model X.prog X.w) X.A (pyIter (.ref s.heap.objs.size)) (PIE X pins σ tg R) E { s with heap:=s.heap.push { cls:=.type "range", data:=.fields #[.int lo t,.int hi u,.int 1 v] },toks:=tk }:=by
 refine wpAny_pyIter_range (IsRange.new ..) (small_one h1 h2 h3 h4) ?_
 have I1:Inv X pins σ H { s with heap:=s.heap.push { cls:=.type "range", data:=.fields #[.int lo t,.int hi u,.int 1 v] },toks:=tk }:=I.kept fun b o e=>Heap.get?_push_of_some _ e
 refine ⟨(s.heap.push { cls:=.type "range", data:=.fields #[.int lo t,.int hi u,.int 1 v] }).objs.size,[(s.heap.push { cls:=.type "range", data:=.fields #[.int lo t,.int hi u,.int 1 v] }).objs.size],_,_,H,rfl,
  I1.kept (t':=tk) fun b o e=>Heap.get?_push_of_some _ e,rK _ lo (hi - lo).toNat,?_,fun b hb=>?_,q⟩
 ·have e1:lo + ((0:Nat):Int) * 1=lo:=by simp
  have e2:(((hi - lo).toNat:Nat):Int) - ((0:Nat):Int)=Builtin.Range.rangeSize lo hi 1:=by rw [rangeSize_one];split <;> omega
  show IsRangeIter _ _ (lo + ((0:Nat):Int) * 1) ((((hi - lo).toNat:Nat):Int) - ((0:Nat):Int)) 1
  rw [e1,e2]
  exact Heap.get?_push_size _ rfl
 ·have e:b=(s.heap.push { cls:=.type "range", data:=.fields #[.int lo t,.int hi u,.int 1 v] }).objs.size:=by simpa using hb
  subst e
  exact I1.fpOk (Nat.le_refl _) (I1.hok.fresh (Nat.le_refl _))
def zP (ta:TA):TI:=fun σ H R=>ta σ H fun vs H1=>∃ j:Int,vs=[.int j]/\-(2 ^ 62) <= j/\j < 2 ^ 62/\R (Itr 0 j.toNat) H1
theorem sW {a:Expr} {ta:TA} {p pos:Pos} (hg:Gl X "range") (hm:X.mg "range" = none) (ha:PA X [a] ta) (hs:starEach [a] X.env=[(false,eval a X.env)]:=by rfl):PI X tg (.Call (.Name "range" p) [a] [] pos) (zP ta):=by
 intro pins s σ H R I h
 refine Call_ (iD I hg hm boot_range (PyProof.Rows.callWith_type1 (thn (ha pos pins s σ H _ I h) fun us s1 ⟨vs,H1,I1,r1,q1⟩=>?_) hs rfl))
 obtain ⟨j,e,q1,q2,q⟩:=q1
 subst e
 cases r1 with
 | cons r rr =>
  cases rr
  obtain ⟨t,rfl⟩:=r
  exact call_range_1 (u8 I1 (by omega) (by omega) q1 q2 (by simpa using q))
def Cz (wi:TI) (g:TG) (tb:TS):TS:=fun D σ H=>wi σ H fun J H1=>∃ W:Nat->Nat->St->Hp->Prop,(∃ m,W 0 m σ H1)/\∀ i m σ H,W i m σ H →
 (J.stop i H/\D.nx σ H) \/ (J.go i H/\∃ N:St->Hp->Prop,(∀ σ' H',N σ' H'->∃ m',m' < m/\W (i + 1) m' σ' H')/\∀ x H',J.yld i H x H'->g x σ H' fun σ2 H2=>tb { D with nx:=N,ct:=N,bk:=D.nx } σ2 H2)
def j9 (fp:List Addr) (h:Heap):List (Addr × Obj):=fp.filterMap fun b=>(h.get? b).map fun o=>(b,o)
theorem ij {fp:List Addr} {h:Heap} {b:Addr} {o:Obj} (hb:b ∈ fp) (e:h.get? b=some o):(b,o) ∈ j9 fp h:=List.mem_filterMap.mpr ⟨b,hb,by rw [e];rfl⟩
theorem sX {fp:List Addr} {h:Heap} {p:Addr × Obj} (hp:p ∈ j9 fp h):p.1 ∈ fp/\h.get? p.1=some p.2:=by
 obtain ⟨b,hb,e⟩:=List.mem_filterMap.mp hp
 cases q:h.get? b with
 | none=>rw [q] at e;cases e
 | some o =>
  rw [q] at e
  have e':(b,o)=p:=Option.some.inj e
  subst e'
  exact ⟨hb,q⟩
theorem Inv.pinned {pins:List (Addr × Obj)} {σ:St} {H:Hp} {s:Shared} {fp:List Addr} (I:Inv X pins σ H s) (hf:∀ b ∈ fp,gA X pins H b) (ho:∀ b ∈ fp,∃ o,s.heap.get? b=some o/\∀ v,o.data ≠ .cell v):Inv X (pins ++ j9 fp s.heap) σ H s:=
 I.pins_of fun p hp=>(List.mem_append.mp hp).elim (fun z=>I.pin p (List.mem_append_right _ z)) fun z=>by
  obtain ⟨hb,e⟩:=sX z
  obtain ⟨f0,f1,f2,_⟩:=hf p.1 hb
  obtain ⟨o,e',d⟩:=ho p.1 hb
  rw [e] at e';cases e'
  exact ⟨e,f0,f1,f2,d⟩
theorem Inv.unpinned {pins pl:List (Addr × Obj)} {σ:St} {H:Hp} {s:Shared} (I:Inv X (pins ++ pl) σ H s):Inv X pins σ H s:=I.pins_of fun p hp=>I.pin p (List.mem_append_right _ (List.mem_append_left _ hp))
theorem yk {iter:Expr} {body:List Stmt} {wi:TI} {g:TG} {tb:TS} {pos:Pos} (hp:PassesOwn (model X.prog X.w) X.A X.env X.xe) (hc:X.calm=true) (hi:PI X tg iter wi) (hg:PG X tg g) (hb:PSs X body tb)
    (hs:∀ x,foldedSetIterable iter X.env x=pure x:=by intro _;rfl):PS X (.For tg iter body [] pos) (Cz wi g tb):=by
 intro pins s σ H D I h
 refine wpAny_For (thn (hi pins s σ H _ I h) fun v s1 h1=>thn h1 fun itv s2 h2=>?_) hs
 obtain ⟨it,fp,tn,J,H2,e,I2,T,st2,f2,W,⟨m0,w0⟩,turn⟩:=h2
 subst e
 -- what stays true of the iterator's objects through the loop
 have stat:∀ {H':Hp},(∀ b ∈ fp,H' b=none)->∀ b ∈ fp,gA X pins H' b:=fun hn b hb=>⟨hn b hb,(f2 b hb).2⟩
 refine codeAny_forLoop_any (fun n s'=>∃ i σ' H',Inv X pins σ' H' s'/\tn i s'.heap/\(∀ b ∈ fp,H' b=none)/\W i n σ' H') ?_ m0 ⟨0,σ,H2,I2,st2,fun b hb=>(f2 b hb).1,w0⟩
 rintro n s3 ⟨i,σ3,H3,I3,st3,fr3,w3⟩
 rcases turn i n σ3 H3 w3 with ⟨stop,qn⟩ | ⟨go,N,hN,step⟩
 ·refine wpAny_passesOwn hp (thn (T.done X rfl rfl rfl hc i pins s3 σ3 H3 X.xe I3 (stat fr3) st3 stop) fun r s4 ⟨hr,I4⟩=>?_)
  subst hr
  exact wpAny_execs_nil ⟨σ3,H3,I4,qn⟩
 ·refine wpAny_passesOwn hp (thn (T.item X rfl rfl rfl hc i pins s3 σ3 H3 X.xe I3 (stat fr3) st3 go) fun r s4 ⟨u,hr,h4⟩=>?_)
  subst hr
  refine wpAny_passesOwn hp (thn h4 fun _ s5 ⟨x,H5,I5,r5,y5,st5,fr5⟩=>?_)
  have I5':=I5.pinned (stat fr5) (T.obj _ _ st5)
  refine wpAny_passesOwn hp (thn (hg _ s5 σ3 H5 x u _ I5' r5 (step x H5 y5)) fun _ s6 ⟨σ6,H6,I6,q6⟩=>?_)
  refine wpAny_passesOwn hp (thn (hb _ s6 σ6 H6 _ I6 q6) fun f s7 q7=>?_)
  have again:∀ {σ7:St} {H7:Hp},Inv X (pins ++ j9 fp s5.heap) σ7 H7 s7->N σ7 H7->∃ m,m < n/\∃ i σ' H',Inv X pins σ' H' s7/\tn i s7.heap/\(∀ b ∈ fp,H' b=none)/\W i m σ' H':=fun {σ7 H7} I7 n7=>by
   obtain ⟨m',hm,w7⟩:=hN σ7 H7 n7
   refine ⟨m',hm,i + 1,σ7,H7,I7.unpinned,T.keep _ _ _ st5 fun b hb o e=>(I7.pin (b,o) (List.mem_append_right _ (List.mem_append_right _ (ij hb e)))).1,fun b hb=>?_,w7⟩
   obtain ⟨o,e,d⟩:=T.obj _ _ st5 b hb
   exact (I7.pin (b,o) (List.mem_append_right _ (List.mem_append_right _ (ij hb e)))).2.1
  cases f with
  | next=>obtain ⟨σ7,H7,I7,n7⟩:=q7;exact again I7 n7
  | cont=>obtain ⟨σ7,H7,I7,n7⟩:=q7;exact again I7 n7
  | brk=>obtain ⟨σ7,H7,I7,q7⟩:=q7;exact ⟨σ7,H7,I7.unpinned,q7⟩
  | ret v=>obtain ⟨x7,σ7,H7,I7,r7,q7⟩:=q7;exact ⟨x7,σ7,H7,I7.unpinned,r7,q7⟩
end
abbrev R2:=V->V->Hp->VK->Prop
def OpR (X:Cx) (f:Value->Value->Sem Value) (r:R2):Prop:=
 ∀ (pins:List (Addr × Obj)) (s:Shared) (σ:St) (H:Hp) (x y:V) (v u:Value) (Q:VK),Inv X pins σ H s->RelV x v->RelV y u->r x y H Q →
  wpAny (model X.prog X.w) X.A (f v u) (EP X pins σ Q) X.xe s
def UnR (X:Cx) (f:Value->Sem Value) (r:V->Hp->VK->Prop):Prop:=
 ∀ (pins:List (Addr × Obj)) (s:Shared) (σ:St) (H:Hp) (x:V) (v:Value) (Q:VK),Inv X pins σ H s->RelV x v->r x H Q →
  wpAny (model X.prog X.w) X.A (f v) (EP X pins σ Q) X.xe s
def CallR (X:Cx) (f:Value) (r:List V->Hp->VK->Prop):Prop:=
 ∀ (pins:List (Addr × Obj)) (s:Shared) (σ:St) (H:Hp) (xs:List V) (us:List Value) (Q:VK),Inv X pins σ H s->Vals xs us->r xs H Q →
  wpAny (model X.prog X.w) X.A (call f us) (EP X pins σ Q) X.xe s
def tOp (r:R2) (ta tb:TE):TE:=fun σ H Q=>ta σ H fun x H1=>tb σ H1 fun y H2=>r x y H2 Q
def tUn (r:V->Hp->VK->Prop) (ta:TE):TE:=fun σ H Q=>ta σ H fun x H1=>r x H1 Q
def rI (C:Int->Int->Prop) (g:Int->Int->V):R2:=fun x y H Q=>∃ i j,x=.int i/\y=.int j/\C i j/\Q (g i j) H
def rI0 (g:Int->Int->V):R2:=fun x y H Q=>∃ i j,x=.int i/\y=.int j/\Q (g i j) H
def rU (g:Int->V):V->Hp->VK->Prop:=fun x H Q=>∃ i,x=.int i/\Q (g i) H
section
variable {X:Cx} {a b c:Expr} {ta tb tc:TE} {pos:Pos}
theorem u9 (ha:PE X a ta) (hb:PE X b tb) {pins:List (Addr × Obj)} {s:Shared} {σ:St} {H:Hp} {R:V->V->Hp->Prop} (I:Inv X pins σ H s)
    (h:ta σ H fun x H1=>tb σ H1 fun y H2=>R x y H2) {Q:Value->Shared->Prop} {f:Value->Value->Sem Value}
    (hf:∀ v u s2 x y H2,Inv X pins σ H2 s2->RelV x v->RelV y u->R x y H2->wpAny (model X.prog X.w) X.A (f v u) Q X.xe s2) :
    wpAny (model X.prog X.w) X.A (eval a X.env) (fun v s₁=>wpAny (model X.prog X.w) X.A (eval b X.env) (fun u s₂=>wpAny (model X.prog X.w) X.A (f v u) Q X.xe s₂) X.xe s₁) X.xe s:=by
 refine thn (ha pins s σ H _ I h) fun v s1 ⟨x,H1,I1,r1,q1⟩=>?_
 refine thn (hb pins s1 σ H1 _ I1 q1) fun u s2 ⟨y,H2,I2,r2,q2⟩=>?_
 exact hf v u s2 x y H2 I2 r1 r2 q2
theorem zQ {op:Operator} {r:R2} (ho:OpR X (binaryOp op) r) (ha:PE X a ta) (hb:PE X b tb):PE X (.BinOp a op b pos) (tOp r ta tb):=by
 intro pins s σ H Q I h
 exact wpAny_BinOp (u9 ha hb I h fun v u s2 x y H2 I2 rx ry q=>ho pins s2 σ H2 x y v u Q I2 rx ry q)
theorem zR {op:UnaryOp} {r:V->Hp->VK->Prop} (ho:UnR X (unaryOp op) r) (ha:PE X a ta):PE X (.UnaryOp op a pos) (tUn r ta):=by
 intro pins s σ H Q I h
 exact UnaryOp_ (thn (ha pins s σ H _ I h) fun v s1 ⟨x,H1,I1,r1,q1⟩=>ho pins s1 σ H1 x v Q I1 r1 q1)
theorem opI {f:Value->Value->Sem Value} {C:Int->Int->Prop} {g:Int->Int->Int}
    (rule:∀ (i j:Int) (t u:Tok) (s:Shared) (Q:Value->Shared->Prop) (E:Value->Shared->Prop),C i j->Q (.int (g i j) s.toks) { s with toks:=s.toks + 1 }->wpAny (model X.prog X.w) X.A (f (.int i t) (.int j u)) Q E s) :
    OpR X f (rI C fun i j=>.int (g i j)):=by
 intro pins s σ H x y v u Q I rx ry h
 obtain ⟨i,j,rfl,rfl,hc,q⟩:=h
 obtain ⟨t,rfl⟩:=rx
 obtain ⟨t',rfl⟩:=ry
 exact rule i j t t' s _ _ hc ⟨.int (g i j),H,I.tok _,⟨_,rfl⟩,q⟩
theorem ym {f:Value->Value->Sem Value} {g:Int->Int->Int}
    (rule:∀ (i j:Int) (t u:Tok) (s:Shared) (Q:Value->Shared->Prop) (E:Value->Shared->Prop),Q (.int (g i j) s.toks) { s with toks:=s.toks + 1 }->wpAny (model X.prog X.w) X.A (f (.int i t) (.int j u)) Q E s) :
    OpR X f (rI0 fun i j=>.int (g i j)):=by
 intro pins s σ H x y v u Q I rx ry h
 obtain ⟨i,j,rfl,rfl,q⟩:=h
 obtain ⟨t,rfl⟩:=rx
 obtain ⟨t',rfl⟩:=ry
 exact rule i j t t' s _ _ ⟨.int (g i j),H,I.tok _,⟨_,rfl⟩,q⟩
theorem rL {f:Value->Value->Sem Value} {g:Int->Int->Bool}
    (rule:∀ (i j:Int) (t u:Tok) (s:Shared) (Q:Value->Shared->Prop) (E:Value->Shared->Prop),Q (.bool (g i j)) s->wpAny (model X.prog X.w) X.A (f (.int i t) (.int j u)) Q E s) :
    OpR X f (rI0 fun i j=>.bl (g i j)):=by
 intro pins s σ H x y v u Q I rx ry h
 obtain ⟨i,j,rfl,rfl,q⟩:=h
 obtain ⟨t,rfl⟩:=rx
 obtain ⟨t',rfl⟩:=ry
 exact rule i j t t' s _ _ ⟨.bl (g i j),H,I,rfl,q⟩
def CA (i j:Int):Prop:=0 < j/\j < 1073741824
def CMul (i j:Int):Prop:=(-(2 ^ 64) < i/\i < 2 ^ 64) \/ (-(2 ^ 64) < j/\j < 2 ^ 64)
theorem CMul.ok {i j:Int} (h:CMul i j):IntMulOk i j:=by
 rcases h with ⟨h1,h2⟩ | ⟨h1,h2⟩
 ·exact .of_left (intBits_le_64 h1 h2)
 ·exact .of_right (intBits_le_64 h1 h2)
theorem yn:OpR X (binaryOp .Add) (rI0 fun i j=>.int (i + j)):=ym fun _ _ _ _ _ _ _ q=>add_int q
theorem yo:OpR X (binaryOp .Sub) (rI0 fun i j=>.int (i - j)):=ym fun _ _ _ _ _ _ _ q=>sub_int q
theorem yp:OpR X (binaryOp .Mult) (rI CMul fun i j=>.int (i * j)):=opI fun _ _ _ _ _ _ _ hc q=>mul_int q hc.ok
theorem wO:OpR X (binaryOp .FloorDiv) (rI CA fun i j=>.int (i / j)):=opI fun i j _ _ _ _ _ hc q=>by
 have h1:(0:Int) < j:=hc.1
 have h2:j < 1073741824:=hc.2
 exact floordiv_int (by omega) (by rw [Int.fdiv_eq_ediv_of_nonneg i (by omega)];exact q) (.inl (PyProof.noPylong_small (by omega)))
theorem yq:OpR X (binaryOp .Mod) (rI (fun _ j=>0 < j) fun i j=>.int (i % j)):=opI fun i j _ _ _ _ _ hc q=>by
 have h1:(0:Int) < j:=hc
 exact mod_int' (by omega) (by rw [Int.fmod_eq_emod_of_nonneg i (by omega)];exact q)
theorem unI {f:Value->Sem Value} {g:Int->Int}
    (rule:∀ (i:Int) (t:Tok) (s:Shared) (Q:Value->Shared->Prop) (E:Value->Shared->Prop),Q (.int (g i) s.toks) { s with toks:=s.toks + 1 }->wpAny (model X.prog X.w) X.A (f (.int i t)) Q E s) :
    UnR X f (rU fun i=>.int (g i)):=by
 intro pins s σ H x v Q I rx h
 obtain ⟨i,rfl,q⟩:=h
 obtain ⟨t,rfl⟩:=rx
 exact rule i t s _ _ ⟨.int (g i),H,I.tok _,⟨_,rfl⟩,q⟩
theorem yr:UnR X (unaryOp .USub) (rU fun i=>.int (-i)):=unI fun _ _ _ _ _ q=>neg_int q
end
def yt:V->V->Bool
 | .non,.non=>true | .non,.int _=>true | .int _,.non=>true | .non,.bl _=>true | .bl _,.non=>true | .non,.str _=>true | .str _,.non=>true
 | .int _,.int _=>true | .bl _,.bl _=>true | .str _,.str _=>true | .byt _,.byt _=>true
 | .int _,.str _=>true | .str _,.int _=>true | .bl _,.str _=>true | .str _,.bl _=>true
 | _,_=>false
def rEq:R2:=fun x y H Q=>yt x y=true/\Q (.bl (decide (x=y))) H
def rNe:R2:=fun x y H Q=>yt x y=true/\Q (.bl (!decide (x=y))) H
theorem qR {i j:Int}:decide (V.int i=V.int j)=(i == j):=by
 rw [Bool.eq_iff_iff]
 simp
theorem sY {i j:Bool}:decide (V.bl i=V.bl j)=(i == j):=by
 rw [Bool.eq_iff_iff]
 simp
theorem qS {i j:Str}:decide (V.str i=V.str j)=(i == j):=by
 rw [Bool.eq_iff_iff]
 simp
theorem qT {i j:Array UInt8}:decide (V.byt i=V.byt j)=(i.toList == j.toList):=by
 rw [Bool.eq_iff_iff]
 cases i
 cases j
 simp
section
variable {X:Cx} {a b c:Expr} {ta tb tc:TE} {pos:Pos}
theorem bo {pins:List (Addr × Obj)} {σ:St} {H:Hp} {s:Shared} {Q:VK} {k k':Bool} (I:Inv X pins σ H s) (q:Q (.bl k) H) (e:k=k'):EP X pins σ Q (.bool k') s:=by
 subst e
 exact ⟨.bl k,H,I,rfl,q⟩
theorem zS:OpR X (compareOp .Eq) rEq:=by
 intro pins s σ H x y v u Q I rx ry h
 obtain ⟨hs,q⟩:=h
 cases x with
 | non =>
  cases rx
  cases y with
  | non=>cases ry;exact PySem.EqNone.eq_none_none (bo I q (by simp))
  | bl j=>cases ry;exact PySem.EqNone.eq_none_bool (bo I q (by simp))
  | int j=>obtain ⟨t',rfl⟩:=ry;exact PySem.EqNone.eq_none_int (bo I q (by simp))
  | str j=>obtain ⟨t',rfl⟩:=ry;exact PySem.EqNone.eq_none_str (bo I q (by simp))
  | _=>exact absurd (show false=true from hs) Bool.false_ne_true
 | bl i =>
  cases rx
  cases y with
  | non=>cases ry;exact PySem.EqNone.eq_bool_none (bo I q (by simp))
  | bl j=>cases ry;exact eq_bool (bo I q sY)
  | str j=>obtain ⟨t',rfl⟩:=ry;exact PySem.EqMixed.eq_bool_str (bo I q (by simp))
  | _=>exact absurd (show false=true from hs) Bool.false_ne_true
 | int i =>
  obtain ⟨t,rfl⟩:=rx
  cases y with
  | non=>cases ry;exact PySem.EqNone.eq_int_none (bo I q (by simp))
  | int j=>obtain ⟨t',rfl⟩:=ry;exact eq_int (bo I q qR)
  | str j=>obtain ⟨t',rfl⟩:=ry;exact PySem.EqMixed.eq_int_str (bo I q (by simp))
  | _=>exact absurd (show false=true from hs) Bool.false_ne_true
 | str i =>
  obtain ⟨t,rfl⟩:=rx
  cases y with
  | non=>cases ry;exact PySem.EqNone.eq_str_none (bo I q (by simp))
  | bl j=>cases ry;exact PySem.EqMixed.eq_str_bool (bo I q (by simp))
  | int j=>obtain ⟨t',rfl⟩:=ry;exact PySem.EqMixed.eq_str_int (bo I q (by simp))
  | str j=>obtain ⟨t',rfl⟩:=ry;exact eq_str (bo I q qS)
  | _=>exact absurd (show false=true from hs) Bool.false_ne_true
 | byt i =>
  obtain ⟨t,rfl⟩:=rx
  cases y with
  | byt j=>obtain ⟨t',rfl⟩:=ry;exact PySem.W.eq_bytes (bo I q qT)
  | _=>exact absurd (show false=true from hs) Bool.false_ne_true
 | _=>cases y <;> exact absurd (show false=true from hs) Bool.false_ne_true
theorem zT:OpR X (compareOp .NotEq) rNe:=by
 intro pins s σ H x y v u Q I rx ry h
 obtain ⟨hs,q⟩:=h
 cases x with
 | non =>
  cases rx
  cases y with
  | non=>cases ry;exact PySem.EqNone.ne_none_none (bo I q (by simp))
  | bl j=>cases ry;exact PySem.EqNone.ne_none_bool (bo I q (by simp))
  | int j=>obtain ⟨t',rfl⟩:=ry;exact PySem.EqNone.ne_none_int (bo I q (by simp))
  | str j=>obtain ⟨t',rfl⟩:=ry;exact PySem.EqNone.ne_none_str (bo I q (by simp))
  | _=>exact absurd (show false=true from hs) Bool.false_ne_true
 | bl i =>
  cases rx
  cases y with
  | non=>cases ry;exact PySem.EqNone.ne_bool_none (bo I q (by simp))
  | bl j=>cases ry;exact ne_bool (bo I q (congrArg not sY))
  | str j=>obtain ⟨t',rfl⟩:=ry;exact PySem.EqMixed.ne_bool_str (bo I q (by simp))
  | _=>exact absurd (show false=true from hs) Bool.false_ne_true
 | int i =>
  obtain ⟨t,rfl⟩:=rx
  cases y with
  | non=>cases ry;exact PySem.EqNone.ne_int_none (bo I q (by simp))
  | int j=>obtain ⟨t',rfl⟩:=ry;exact ne_int (bo I q (congrArg not qR))
  | str j=>obtain ⟨t',rfl⟩:=ry;exact PySem.EqMixed.ne_int_str (bo I q (by simp))
  | _=>exact absurd (show false=true from hs) Bool.false_ne_true
 | str i =>
  obtain ⟨t,rfl⟩:=rx
  cases y with
  | non=>cases ry;exact PySem.EqNone.ne_str_none (bo I q (by simp))
  | bl j=>cases ry;exact PySem.EqMixed.ne_str_bool (bo I q (by simp))
  | int j=>obtain ⟨t',rfl⟩:=ry;exact PySem.EqMixed.ne_str_int (bo I q (by simp))
  | str j=>obtain ⟨t',rfl⟩:=ry;exact ne_str (bo I q (congrArg not qS))
  | _=>exact absurd (show false=true from hs) Bool.false_ne_true
 | byt i =>
  obtain ⟨t,rfl⟩:=rx
  cases y with
  | byt j=>obtain ⟨t',rfl⟩:=ry;exact PySem.W.ne_bytes (bo I q (congrArg not qT))
  | _=>exact absurd (show false=true from hs) Bool.false_ne_true
 | _=>cases y <;> exact absurd (show false=true from hs) Bool.false_ne_true
theorem kS:OpR X (compareOp .Lt) (rI0 fun i j=>.bl (decide (i < j))):=rL fun _ _ _ _ _ _ _ q=>lt_int q
theorem fP:OpR X (compareOp .LtE) (rI0 fun i j=>.bl (decide (i <= j))):=rL fun _ _ _ _ _ _ _ q=>le_int q
theorem zU:OpR X (compareOp .Gt) (rI0 fun i j=>.bl (decide (j < i))):=rL fun _ _ _ _ _ _ _ q=>gt_int q
theorem zV:OpR X (compareOp .GtE) (rI0 fun i j=>.bl (decide (j <= i))):=rL fun _ _ _ _ _ _ _ q=>ge_int q
theorem yu:OpR X (compareOp .Is) (fun x y H Q=>y=.non/\Q (.bl (decide (x=.non))) H):=by
 intro pins s σ H x y v u Q I rx ry h
 obtain ⟨rfl,q⟩:=h
 cases ry
 refine is_none_gen (bo I q ?_)
 cases x <;> first
  | (cases rx;rfl)
  | (obtain ⟨t,rfl⟩:=rx;rfl)
theorem wP:OpR X (compareOp .IsNot) (fun x y H Q=>y=.non/\Q (.bl (!decide (x=.non))) H):=by
 intro pins s σ H x y v u Q I rx ry h
 obtain ⟨rfl,q⟩:=h
 cases ry
 refine isnot_none_gen (bo I q ?_)
 cases x <;> first
  | (cases rx;rfl)
  | (obtain ⟨t,rfl⟩:=rx;rfl)
theorem OpR.or {f:Value->Value->Sem Value} {r r':R2} (h:OpR X f r) (h':OpR X f r'):OpR X f (fun x y H Q=>r x y H Q \/ r' x y H Q):=by
 intro pins s σ H x y v u Q I rx ry q
 rcases q with q | q
 ·exact h pins s σ H x y v u Q I rx ry q
 ·exact h' pins s σ H x y v u Q I rx ry q
theorem aO (b:Expr) {op:CmpOp} (h:op ≠ .In:=by decide) (h2:op ≠ .NotIn:=by decide):behindInMarks op b=false:=by
 have e1:(op == CmpOp.In)=false:=by cases op <;> first | rfl | exact absurd rfl h
 have e2:(op == CmpOp.NotIn)=false:=by cases op <;> first | rfl | exact absurd rfl h2
 cases b <;> simp [behindInMarks,e1,e2]
theorem wQ {op:CmpOp} {r:R2} (ho:OpR X (compareOp op) r) (ha:PE X a ta) (hb:PE X b tb) (hm:behindInMarks op b=false):PE X (.Compare a [op] [b] pos) (tOp r ta tb):=by
 intro pins s σ H Q I h
 exact wpAny_Compare1 (u9 ha hb I h fun v u s2 x y H2 I2 rx ry q=>ho pins s2 σ H2 x y v u Q I2 rx ry q) hm
def wp (t:TE):TT:=fun σ H Q=>t σ H fun x H'=>∃ k,x=.bl k/\Q k H'
theorem wR {op:CmpOp} {r:R2} (ho:OpR X (compareOp op) r) (ha:PE X a ta) (hb:PE X b tb) (hm:behindInMarks op b=false):PT X (.Compare a [op] [b] pos) (wp (tOp r ta tb)):=by
 intro pins s σ H Q I h
 refine wpAny_isTrue_Compare1 (thn (ha pins s σ H _ I h) fun v s1 ⟨x,H1,I1,r1,q1⟩=>thn (hb pins s1 σ H1 _ I1 q1) fun u s2 ⟨y,H2,I2,r2,q2⟩ =>
  thn (ho pins s2 σ H2 x y v u _ I2 r1 r2 q2) fun c s3 ⟨z,H3,I3,r3,k,e,q3⟩=>?_) hm
 subst e
 cases r3
 exact wpAny_truthy_bool ⟨H3,I3,q3⟩
def pd (r r':R2) (ta tb tc:TE):TE:=fun σ H Q=>ta σ H fun x H1=>tb σ H1 fun y H2=>r x y H2 fun z H3=>∃ k,z=.bl k ∧
 (if k=true then tc σ H3 fun w' H4=>r' y w' H4 Q else Q (.bl false) H3)
theorem va {op op':CmpOp} {r r':R2} (ho:OpR X (compareOp op) r) (ho':OpR X (compareOp op') r') (ha:PE X a ta) (hb:PE X b tb) (hc:PE X c tc)
    (hm:lastMarks [op,op'] [b,c]=false:=by with_unfolding_all rfl):PE X (.Compare a [op,op'] [b,c] pos) (pd r r' ta tb tc):=by
 intro pins s σ H Q I h
 refine Compare_chain (thn (ha pins s σ H _ I h) fun v s1 ⟨x,H1,I1,r1,q1⟩=>chain_link (thn (hb pins s1 σ H1 _ I1 q1) fun u s2 ⟨y,H2,I2,r2,q2⟩ =>
  thn (ho pins s2 σ H2 x y v u _ I2 r1 r2 q2) fun d s3 ⟨z,H3,I3,r3,k,e,q3⟩=>?_)) hm
 subst e
 cases r3
 refine wpAny_truthy_bool ?_
 cases k with
 | false=>exact ite_ff ⟨.bl false,H3,I3,rfl,q3⟩
 | true=>exact ite_tt (chain_last (thn (hc pins s3 σ H3 _ I3 q3) fun w' s4 ⟨z',H4,I4,r4,q4⟩=>ho' pins s4 σ H4 y z' u w' Q I4 r2 r4 q4))
theorem vb {op op':CmpOp} {r r':R2} (ho:OpR X (compareOp op) r) (ho':OpR X (compareOp op') r') (ha:PE X a ta) (hb:PE X b tb) (hc:PE X c tc)
    (hm:lastMarks [op,op'] [b,c]=false:=by with_unfolding_all rfl):PT X (.Compare a [op,op'] [b,c] pos) (wp (pd r r' ta tb tc)):=by
 intro pins s σ H Q I h
 refine isTrue_chain (thn (ha pins s σ H _ I h) fun v s1 ⟨x,H1,I1,r1,q1⟩=>test_link (thn (hb pins s1 σ H1 _ I1 q1) fun u s2 ⟨y,H2,I2,r2,q2⟩ =>
  thn (ho pins s2 σ H2 x y v u _ I2 r1 r2 q2) fun d s3 ⟨z,H3,I3,r3,k,e,q3⟩=>?_)) hm
 subst e
 cases r3
 refine wpAny_truthy_bool ?_
 cases k with
 | false =>
  obtain ⟨k',e',q'⟩:=q3
  cases e'
  exact ite_ff ⟨H3,I3,q'⟩
 | true =>
  refine ite_tt (test_last (thn (hc pins s3 σ H3 _ I3 q3) fun w' s4 ⟨z',H4,I4,r4,q4⟩=>thn (ho' pins s4 σ H4 y z' u w' _ I4 r2 r4 q4) fun d' s5 ⟨z2,H5,I5,r5,k2,e2,q5⟩=>?_))
  subst e2
  cases r5
  exact wpAny_truthy_bool ⟨H5,I5,q5⟩
theorem je:(sizeLine:Nat) < 2 ^ 63:=by rw [sizeLine_eq];decide
theorem rM:OpR X (binaryOp .Add) (fun x y H Q=>∃ i j,x=.str i/\y=.str j/\i.length + j.length <= sizeLine/\Q (.str (i ++ j)) H):=by
 intro pins s σ H x y v u Q I rx ry h
 obtain ⟨i,j,rfl,rfl,hz,q⟩:=h
 obtain ⟨t,rfl⟩:=rx
 obtain ⟨t',rfl⟩:=ry
 exact add_str (fun t' tk=>⟨.str (i ++ j),H,I.tok _,⟨_,rfl⟩,q⟩) hz
theorem iX {x:V} {us:List Value} (r:Vals [x] us):∃ u,us=[u]/\RelV x u:=by
 cases r with
 | cons r1 r2=>cases r2;exact ⟨_,rfl,r1⟩
theorem wq {x y:V} {us:List Value} (r:Vals [x,y] us):∃ u w',us=[u,w']/\RelV x u/\RelV y w':=by
 cases r with
 | cons r1 r2 =>
  cases r2 with
  | cons r3 r4=>cases r4;exact ⟨_,_,rfl,r1,r3⟩
theorem sZ (hc:X.calm=true):CallR X (.builtin "max") (fun xs H Q=>∃ i j,xs=[.int i,.int j]/\Q (.int (if j > i then j else i)) H):=by
 intro pins s σ H xs us Q I r h
 obtain ⟨i,j,rfl,q⟩:=h
 obtain ⟨u,w',rfl,⟨t,rfl⟩,⟨t',rfl⟩⟩:=wq r
 refine max_two_ints (I.ok.hd hc) fun h' tk k=>⟨_,H,I.kept k,?_,q⟩
 by_cases hj:j > i
 ·rw [if_pos hj,if_pos hj];exact ⟨_,rfl⟩
 ·rw [if_neg hj,if_neg hj];exact ⟨_,rfl⟩
theorem tf (hc:X.calm=true):CallR X (.builtin "min") (fun xs H Q=>∃ i j,xs=[.int i,.int j]/\Q (.int (if j < i then j else i)) H):=by
 intro pins s σ H xs us Q I r h
 obtain ⟨i,j,rfl,q⟩:=h
 obtain ⟨u,w',rfl,⟨t,rfl⟩,⟨t',rfl⟩⟩:=wq r
 refine min_two_ints (I.ok.hd hc) fun h' tk k=>⟨_,H,I.kept k,?_,q⟩
 by_cases hj:j < i
 ·rw [if_pos hj,if_pos hj];exact ⟨_,rfl⟩
 ·rw [if_neg hj,if_neg hj];exact ⟨_,rfl⟩
theorem tm:CallR X (.type "int") (fun xs H Q=>(∃ i,xs=[.int i]/\Q (.int i) H) \/ ∃ k,xs=[.bl k]/\Q (.int (if k then 1 else 0)) H):=by
 intro pins s σ H xs us Q I r h
 rcases h with ⟨i,rfl,q⟩ | ⟨k,rfl,q⟩
 ·obtain ⟨u,rfl,t,rfl⟩:=iX r
  exact call_int_int ⟨.int i,H,I,⟨_,rfl⟩,q⟩
 ·obtain ⟨u,rfl,r1⟩:=iX r
  cases r1
  exact call_int_bool ⟨.int (if k then 1 else 0),H,I.tok _,⟨_,rfl⟩,q⟩
end
structure ObjM (h:Heap) (x dx C:Addr) (mA:Str->Option Value):Prop where
 obj:h.get? x=some (PySem.W.instObj C dx)
 ns:h.Ns1 dx mA
 ne:dx ≠ x
theorem tp {h:Heap} {dx:Addr} {mA:Str->Option Value} (n:h.Ns1 dx mA):∃ od,h.get? dx=some od/\∀ name,PySem.W.lookIn name od=some (mA name):=by
 obtain ⟨o,es,ep,ho,hd,hk,_,hm⟩:=n
 refine ⟨o,ho,fun name=>?_⟩
 have e:=hm name
 unfold nsFind findBy at e
 rw [<- Array.find?_toList] at e
 unfold PySem.W.lookIn
 rw [hd]
 dsimp only
 split
 ·rename_i y q
  rw [q] at e
  exact congrArg some e
 ·rename_i q
  rw [q] at e
  have a:es.toList.any (·.refKey)=false:=by
   rw [List.any_eq_false]
   intro y hy
   obtain ⟨z,t,hkey⟩:=hk y (Array.mem_toList_iff.mp hy)
   simp [DictEntry.refKey,hkey]
  have a':¬ es.toList.any (·.refKey)=true:=by rw [a];exact Bool.false_ne_true
  rw [if_neg a']
  exact congrArg some e
theorem ObjM.look {h:Heap} {x dx C:Addr} {mA:Str->Option Value} (I:ObjM h x dx C mA):∃ od,PySem.W.InstAt h x (PySem.W.instObj C dx) C (some od)/\∀ name,PySem.W.lookIn name od=some (mA name):=
 let ⟨od,ho,hl⟩:=tp I.ns
 ⟨od,⟨I.obj,rfl,rfl,ho⟩,hl⟩
section
variable {prog:Program} {w:World} {A:Around} {E:Value->Shared->Prop} {s:Shared} {K:PySem.W.Frag} {x dx C f:Addr} {mA:Str->Option Value} {name:Str} {v:Value}
theorem wS {expr:Bool} {Q:Value->Shared->Prop} (X:K.In s.heap) (I:ObjM s.heap x dx C mA) (hg:PySem.W.plainGet K C name=true) (hh:PySem.W.hasDictIn K C=true)
    (ha:PySem.W.findIn K (.ref C) name=some none) (hv:mA name=some v) (hv':PySem.W.handedIn v=true) (h:Q v { s with toks:=s.toks + 1 }) :
    wpAny (model prog w) A (getAttr (.ref x) name expr) Q E s:=by
 obtain ⟨od,J,hl⟩:=I.look
 exact PySem.W.get_value X J (PySem.W.plainGet_of hg).1 (PySem.W.findObj_own hh ha rfl (by rw [hl,hv])) hv' h
theorem wT {ns:List Str} {Q:Unit->Shared->Prop} (X:K.In s.heap) (I:ObjM s.heap x dx C mA)
    (hs:PySem.W.findIn K (.ref C) "__setattr__" = some (some (.builtin "object.__setattr__"))) (hp:PySem.W.plainOver K C=true) (ht:PySem.W.takerIn K C name=some none) (hh:PySem.W.hasDictIn K C=true)
    (hw:PySem.Within mA ns) (hsz:ns.length <= sizeLine)
    (h:∀ h',ObjM h' x dx C (fun y=>if y=name then some v else mA y)->Heap.SameBut dx s.heap h'->Q () { s with heap:=h',toks:=s.toks + 2 }) :
    wpAny (model prog w) A (setAttr (.ref x) name v) Q E s:=by
 obtain ⟨od,J,hl⟩:=I.look
 refine PySem.W.set_plain X J hs (PySem.W.osa_open (s:={ s with toks:=s.toks + 1 }) (r:=none) X J hp ht fun b=>?_)
 obtain ⟨cd,hc,hd'⟩:=PySem.W.any_some hh
 have hx:s.heap.get? x=some ⟨.ref C,some dx,.plain,#[]⟩:=I.obj
 refine wpAny_bind (wpAny_pure (wpAny_bind (wpAny_bind (wpAny_loadPart hx (wpAny_bind (PySem.W.Looks.here (s:={ s with toks:=s.toks + 1 }) (PySem.W.looks_clsIn X hc) ?_))))))
 rw [hd']
 refine wpAny_pure (a:=some dx) (wpAny_bind (wpAny_pure (wpAny_bind ?_)))
 refine wpAny_nsSet1 (s:={ s with toks:=s.toks + 1 }) I.ns fun h' hn2 hs2=>?_
 obtain ⟨oD,esD,epD,hoD,hdD,hcD⟩:=hn2.count (PySem.Within.cons name v hw)
 refine wpAny_bind (wpAny_lookBehind hoD (by rw [hdD];exact pastItsLine_dict (Nat.le_trans hcD (by rw [List.length_cons];omega))) ?_)
 exact wpAny_pure (h _ ⟨(hs2.2 _ (Ne.symm I.ne)).trans I.obj,hn2,I.ne⟩ hs2)
theorem vd {R:Result->Shared->Prop} {vs:List Value} {kw:List (Str × Value)} (X:K.In s.heap) (hm:PySem.W.makesIn K C=true)
    (hi:PySem.W.findIn K (.ref C) "__init__" = some (some (.ref f))) (hf:PySem.W.typeIn K (.ref f)=some (.type "function"))
    (h:codeAny (model prog w) (A.under (.builtin "type.__call__" ⟨.ref C::vs,kw⟩)) (.call (.ref f) ⟨.ref (s.heap.objs.size + 1)::vs,kw⟩) (PySem.W.InitBack (s.heap.objs.size + 1) R)
     { s with heap:=(s.heap.push PySem.W.emptyDict).push (PySem.W.instObj C s.heap.objs.size) }) :
    codeAny (model prog w) A (.call (.ref C) ⟨vs,kw⟩) R s:=by
 obtain ⟨hh,g,d,t,os⟩:=s
 exact PySem.W.make_core (PySem.W.makes_of X hm) (PySem.W.looks_findIn X hi) (fun self=>PySem.W.bind_fn X self hf) (.inl rfl) h
end
def dP (f:Str) (v:V):List (Str × V)->List (Str × V)
 | []=>[(f,v)]
 | (g,x)::r=>if g=f then (g,v)::r else (g,x)::dP f v r
theorem lw (f g:Str) (v:V):∀ fs:List (Str × V),(dP f v fs).lookup g=if g=f then some v else fs.lookup g
 | []=>by
  show List.lookup g [(f,v)]=_
  by_cases h:g=f
  ·have hb:(g == f)=true:=beq_iff_eq.mpr h
   simp only [List.lookup,hb,if_pos h]
  ·have hb:(g == f)=false:=beq_eq_false_iff_ne.mpr h
   simp only [List.lookup,hb,if_neg h]
 | (k,x)::r=>by
  have ih:=lw f g v r
  rw [show dP f v ((k,x)::r)=(if k=f then (k,v)::r else (k,x)::dP f v r) from rfl]
  by_cases hk:k=f
  ·rw [if_pos hk]
   by_cases h:g=k
   ·have hb:(g == k)=true:=beq_iff_eq.mpr h
    simp only [List.lookup,hb,if_pos (h.trans hk)]
   ·have hb:(g == k)=false:=beq_eq_false_iff_ne.mpr h
    simp only [List.lookup,hb,if_neg (fun e:g=f=>h (e.trans hk.symm))]
  ·rw [if_neg hk]
   by_cases h:g=k
   ·have hb:(g == k)=true:=beq_iff_eq.mpr h
    simp only [List.lookup,hb,if_neg (fun e:g=f=>hk (h.symm.trans e))]
   ·have hb:(g == k)=false:=beq_eq_false_iff_ne.mpr h
    simp only [List.lookup,hb]
    exact ih
theorem ka (f:Str) (v:V):∀ fs:List (Str × V),f ∈ (dP f v fs).map (·.1)/\∀ g,g ∈ fs.map (·.1)->g ∈ (dP f v fs).map (·.1)
 | []=>⟨by simp [dP],fun g h=>by simp at h⟩
 | (k,x)::r=>by
  obtain ⟨i1,i2⟩:=ka f v r
  rw [show dP f v ((k,x)::r)=(if k=f then (k,v)::r else (k,x)::dP f v r) from rfl]
  by_cases hk:k=f
  ·rw [if_pos hk]
   subst hk
   exact ⟨by simp,fun g h=>by simpa using h⟩
  ·rw [if_neg hk]
   refine ⟨?_,fun g h=>?_⟩
   ·rw [List.map_cons]
    exact List.mem_cons_of_mem _ i1
   ·rw [List.map_cons] at h ⊢
    rcases List.mem_cons.mp h with e | e
    ·exact List.mem_cons.mpr (.inl e)
    ·exact List.mem_cons_of_mem _ (i2 g e)
theorem lx (f:Str) (v:V):∀ fs:List (Str × V),(dP f v fs).length <= fs.length + 1
 | []=>by simp [dP]
 | (k,x)::r=>by
  have ih:=lx f v r
  rw [show dP f v ((k,x)::r)=(if k=f then (k,v)::r else (k,x)::dP f v r) from rfl]
  by_cases hk:k=f
  ·rw [if_pos hk,List.length_cons,List.length_cons];omega
  ·rw [if_neg hk,List.length_cons,List.length_cons];omega
theorem RelO.some_of {v:V} {o:Option Value} (r:RelO (some v) o):∃ u,o=some u/\RelV v u:=by
 cases o with
 | none=>exact (show False from r).elim
 | some u=>exact ⟨u,rfl,r⟩
theorem tq {v:V} {u:Value} (r:RelV v u):PySem.W.handedIn u=true:=by
 cases v with
 | non=>cases (show u=Value.none from r);rfl
 | bl b=>cases (show u=Value.bool b from r);rfl
 | int i=>obtain ⟨t,e⟩:=(show ∃ t,u=Value.int i t from r);cases e;rfl
 | str x=>obtain ⟨t,e⟩:=(show ∃ t,u=Value.str x t from r);cases e;rfl
 | byt b=>obtain ⟨t,e⟩:=(show ∃ t,u=Value.bytes b t from r);cases e;rfl
 | flt b=>obtain ⟨t,e⟩:=(show ∃ t,u=Value.float b t from r);cases e;rfl
 | ref a=>cases (show u=Value.ref a from r);rfl
 | ty n=>cases (show u=Value.type n from r);rfl
section
variable {P:Program} {w:World} {H H':Hp} {h h':Heap} {a C dx:Addr} {fs fs':List (Str × V)}
theorem nu (hok:HOk P w H h) (e:H a=some (.ins C dx fs)):∃ mA,ObjM h a dx C mA/\(∀ f,RelO (fs.lookup f) (mA f))/\PySem.Within mA (fs.map (·.1))/\fs.length <= 1000/\H dx=some (.own a):=by
 obtain ⟨d,z,ne,ob,mA,n,r,q⟩:=(show ObjOk P w H h a (.ins C dx fs) from hok a _ e)
 exact ⟨mA,⟨ob,n,ne⟩,r,q,z,d⟩
end
structure Cls (K:PySem.W.Frag) (C:Addr):Prop where
 pg:PySem.W.plainGet K C Str.empty=true
 hd:PySem.W.hasDictIn K C=true
 po:PySem.W.plainOver K C=true
 sa:PySem.W.findIn K (.ref C) "__setattr__" = some (some (.builtin "object.__setattr__"))
theorem Cls.get {K:PySem.W.Frag} {C:Addr} (c:Cls K C) (f:Str):PySem.W.plainGet K C f=true:=c.pg
def NoAttr (K:PySem.W.Frag) (C:Addr) (f:Str):Prop:=PySem.W.findIn K (.ref C) f=some none
theorem NoAttr.taker {K:PySem.W.Frag} {C:Addr} {f:Str} (n:NoAttr K C f):PySem.W.takerIn K C f=some none:=by
 unfold PySem.W.takerIn
 rw [show PySem.W.findIn K (.ref C) f=some none from n]
 rfl
structure Con (K:PySem.W.Frag) (C:Addr) (f:Str) (v:V) (u:Value):Prop where
 at_:PySem.W.findIn K (.ref C) f=some (some u)
 rel:RelV v u
 get:PySem.W.specialIn K u "__get__" = some none
 cp:PySem.W.copiedNames.contains f=false
structure Meth (K:PySem.W.Frag) (C:Addr) (m:Str) (f:Addr):Prop where
 at_:PySem.W.findIn K (.ref C) m=some (some (.ref f))
 fn:PySem.W.isFn K (.ref f)=true
 kp:PySem.W.keepIn K (.ref f)=true
section
variable {X:Cx} {pins:List (Addr × Obj)} {σ:St} {H:Hp} {s:Shared} {a C dx:Addr} {fs:List (Str × V)} {f:Str} {v:V} {A:Around} {E:Value->Shared->Prop}
theorem rN {b:Bool} {Q:Value->Shared->Prop} (I:Inv X pins σ H s) (e:H a=some (.ins C dx fs)) (c:Cls X.K C) (n:NoAttr X.K C f) (l:fs.lookup f=some v)
    (h:∀ u s',Inv X pins σ H s'->RelV v u->Q u s'):wpAny (model X.prog X.w) A (getAttr (.ref a) f b) Q E s:=by
 obtain ⟨mA,O,r,_,_,_⟩:=nu I.hok e
 obtain ⟨u,hu,ru⟩:=RelO.some_of (v:=v) (o:=mA f) (by rw [<- l];exact r f)
 exact wS I.kIn O (c.get f) c.hd n hu (tq ru) (h u _ (I.tok _) ru)
theorem rO {y:V} {u:Value} {Q:Unit->Shared->Prop} (I:Inv X pins σ H s) (e:H a=some (.ins C dx fs)) (c:Cls X.K C) (n:NoAttr X.K C f) (hl:fs.length < 1000) (ry:RelV y u)
    (h:∀ s',Inv X pins σ (upd H a (.ins C dx (dP f y fs))) s'->Q () s'):wpAny (model X.prog X.w) A (setAttr (.ref a) f u) Q E s:=by
 obtain ⟨mA,O,r,wi,_,ho⟩:=nu I.hok e
 have hz:(fs.map (·.1)).length <= sizeLine:=by rw [List.length_map,sizeLine_eq];omega
 refine wT I.kIn O c.sa c.po n.taker c.hd wi hz fun h' O' sb=>h _ ?_
 have hd:∃ o,h'.get? dx=some o:=let ⟨o,_,_,e',_⟩:=O'.ns;⟨o,e'⟩
 refine I.write (x:=a) (e:=dx) (by rw [e];exact True.intro) (.inr ho) (fun b q hb z=>(sb.2 b hb).trans z) hd ?_
 refine ⟨by rw [aZ O.ne];exact ho,?_,O.ne,O'.obj,_,O'.ns,fun g=>?_,fun g hg=>?_⟩
 ·have:=lx f y fs;omega
 ·show RelO ((dP f y fs).lookup g) (if g=f then some u else mA g)
  rw [lw]
  by_cases q:g=f
  ·rw [if_pos q,if_pos q];exact ry
  ·rw [if_neg q,if_neg q];exact r g
 ·by_cases q:g=f
  ·rw [q];exact (ka f y fs).1
  ·refine (ka f y fs).2 g (wi g fun z=>hg ?_)
   show (if g=f then some u else mA g)=none
   rw [if_neg q];exact z
theorem Inv.made (I:Inv X pins σ H s):Inv X pins σ (upd (upd H s.heap.objs.size (.own (s.heap.objs.size + 1))) (s.heap.objs.size + 1) (.ins C s.heap.objs.size []))
    { s with heap:=(s.heap.push PySem.W.emptyDict).push (PySem.W.instObj C s.heap.objs.size) }:=by
 have e1:(s.heap.push PySem.W.emptyDict).get? s.heap.objs.size=some PySem.W.emptyDict:=Heap.get?_push_size s.heap rfl
 have e2:((s.heap.push PySem.W.emptyDict).push (PySem.W.instObj C s.heap.objs.size)).get? (s.heap.objs.size + 1)=some (PySem.W.instObj C s.heap.objs.size):=by
  have:=Heap.get?_push_size (s.heap.push PySem.W.emptyDict) (o:=PySem.W.instObj C s.heap.objs.size) rfl
  rwa [Heap.size_push] at this
 have e3:(s.heap.push PySem.W.emptyDict).Ns s.heap.objs.size (fun _=>none):=⟨PySem.W.emptyDict,#[],_,e1,rfl,(fun e he=>absurd he (by simp)),fun _=>rfl⟩
 have I1:=I.laid (a:=s.heap.objs.size) (o:=.own (s.heap.objs.size + 1)) (h':=s.heap.push PySem.W.emptyDict) (t':=s.toks) (fun b u q=>Heap.get?_push_of_some _ q) (Nat.le_refl _) ⟨_,e1⟩
 refine I1.laid (a:=s.heap.objs.size + 1) (o:=.ins C s.heap.objs.size []) (t':=s.toks) (fun b u q=>Heap.get?_push_of_some _ q) (Nat.le_of_eq (Heap.size_push _ _)) ?_
 have ne:s.heap.objs.size ≠ s.heap.objs.size + 1:=Nat.ne_of_lt (Nat.lt_succ_self _)
 refine ⟨by rw [aZ ne,bC],Nat.zero_le _,ne,e2,fun _=>none,(Heap.Ns1.of_empty e3).at fun o q=>Heap.get?_push_of_some _ q,fun _=>True.intro,fun y hy=>absurd rfl hy⟩
theorem wU {prog:Program} {w:World} {env:Env} {e:Expr} {f:Str} {pos:Pos} {s:Shared} {Q:Value->Shared->Prop} (hb:attributeBase e f env (eval e env)=eval e env)
    (h:wpAny (model prog w) A (eval e env) (fun o s₁=>wpAny (model prog w) A (getAttr o f true) Q E s₁) E s):wpAny (model prog w) A (eval (.Attribute e f pos) env) Q E s:=
 Attribute_any_ h (by rw [arm_eval_Attribute,hb])
end
def CB (K:PySem.W.Frag) (ta:TE) (f:Str):TE:=fun σ H Q=>ta σ H fun x H1=>∃ a C dx fs v,x=.ref a/\H1 a=some (.ins C dx fs)/\Cls K C/\NoAttr K C f/\fs.lookup f=some v/\Q v H1
def CC (K:PySem.W.Frag) (ta tv:TE) (f:Str):TS:=fun D σ H=>tv σ H fun y H1=>ta σ H1 fun x H2=>∃ a C dx fs,x=.ref a/\H2 a=some (.ins C dx fs)/\Cls K C/\NoAttr K C f/\fs.length < 1000 ∧
 D.nx σ (upd H2 a (.ins C dx (dP f y fs)))
section
variable {X:Cx} {o e value:Expr} {f:Str} {pos pos' tpos:Pos} {ta tv:TE}
theorem yv (he:PE X e ta) (hb:attributeBase e f X.env (eval e X.env)=eval e X.env):PE X (.Attribute e f pos) (CB X.K ta f):=by
 intro pins s σ H Q I h
 refine wU hb (thn (he pins s σ H _ I h) fun u s1 ⟨x,H1,I1,rx,a,C,dx,fs,v,ex,ea,c,n,l,q⟩=>?_)
 subst ex
 obtain rfl:u=Value.ref a:=rx
 exact rN I1 ea c n l fun u' s2 I2 ru=>⟨v,H1,I2,ru,q⟩
theorem yw (ha:PE X o ta) (hv:PE X value tv) (hs:swapsWith value (some (.Attribute o f pos')) pos.line X.env=pure false):PS X (.Assign [.Attribute o f pos'] value pos) (CC X.K ta tv f):=by
 intro pins s σ H D I h
 refine plainObj_wpAny_Assign_Attribute (thn (hv pins s σ H _ I h) fun u s1 ⟨y,H1,I1,ry,q⟩=>thn (ha pins s1 σ H1 _ I1 q) fun ov s2 ⟨x,H2,I2,rx,a,C,dx,fs,ex,ea,c,n,l,q2⟩=>?_) hs
 subst ex
 obtain rfl:ov=Value.ref a:=rx
 exact rO I2 ea c n l ry fun s3 I3=>⟨σ,_,I3,q2⟩
end
section
variable {X:Cx} {pins:List (Addr × Obj)} {σ:St} {H:Hp} {s:Shared} {A:Around} {E:Value->Shared->Prop} {Q:Value->Shared->Prop} {c:Value} {b:Bool}
inductive TyOf (K:PySem.W.Frag) (H:Hp):V->Value->Prop where
 | non:TyOf K H .non (.type "NoneType")
 | bl (x:Bool):TyOf K H (.bl x) (.type "bool")
 | int (i:Int):TyOf K H (.int i) (.type "int")
 | str (x:Str):TyOf K H (.str x) (.type "str")
 | flt (x:UInt64):TyOf K H (.flt x) (.type "float")
 | lst {a:Addr} {xs:List V} (e:H a=some (.lst xs)):TyOf K H (.ref a) (.type "list")
 | frz {a:Addr} {o:Obj} {xs:List V} (e:H a=some (.frz o (.lst xs))):TyOf K H (.ref a) (.type "list")
 | tup {a:Addr} {xs:List V} (e:H a=some (.tup xs)):TyOf K H (.ref a) (.type "tuple")
 | dK {a:Addr} {kvs:List (Key × V)} (e:H a=some (.dK kvs)):TyOf K H (.ref a) (.type "dict")
 | dT {a:Addr} {kvs:List (List Key × V)} (e:H a=some (.dT kvs)):TyOf K H (.ref a) (.type "dict")
 | ins {a C dx:Addr} {fs:List (Str × V)} (e:H a=some (.ins C dx fs)) (cl:Cls K C) (ha:PySem.W.findIn K (.ref C) "__class__" = some (some (.builtin "object.__class__")))
     (hn:PySem.W.specialIn K (.builtin "object.__class__") "__get__" = some (some (.builtin "getset_descriptor.__get__"))) (htk:PySem.W.takesIn K (.builtin "object.__class__")=some true)
     (hm:PySem.W.mroIn K C (.type "object")=some true):TyOf K H (.ref a) (.ref C)
theorem tu {x:V} {u t:Value} (I:Inv X pins σ H s) (rx:RelV x u) (ty:TyOf X.K H x t) (e:PySem.W.kitOne X.K t c=some b) (h:∀ tk,Q (.bool b) { s with toks:=tk }) :
    wpAny (model X.prog X.w) A (call (.builtin "isinstance") [u,c]) Q E s:=by
 cases ty with
 | non=>cases (show u=Value.none from rx);exact PySem.W.kia_one PySem.W.kitx_none I.kIn True.intro e (fun z=>nomatch z) h
 | bl y=>cases (show u=Value.bool y from rx);exact PySem.W.kia_one PySem.W.kitx_bool I.kIn True.intro e (fun z=>nomatch z) h
 | int i=>obtain ⟨t,q⟩:=(show ∃ t,u=Value.int i t from rx);cases q;exact PySem.W.kia_one PySem.W.kitx_int I.kIn True.intro e (fun z=>nomatch z) h
 | str y=>obtain ⟨t,q⟩:=(show ∃ t,u=Value.str y t from rx);cases q;exact PySem.W.kia_one PySem.W.kitx_str I.kIn True.intro e (fun z=>nomatch z) h
 | flt y=>obtain ⟨t,q⟩:=(show ∃ t,u=Value.float y t from rx);cases q;exact PySem.W.kia_one PySem.W.kitx_float I.kIn True.intro e (fun z=>nomatch z) h
 | @lst a xs ea =>
  cases (show u=Value.ref a from rx)
  obtain ⟨_,_,n,_,h1⟩:=(show ObjOk X.prog X.w H s.heap a (.lst xs) from I.hok a _ ea)
  exact PySem.W.kia_one PySem.W.kitx_list I.kIn ⟨_,h1,rfl⟩ e (fun z=>nomatch z) h
 | @frz a ob xs ea =>
  cases (show u=Value.ref a from rx)
  obtain ⟨_,_,_,n,_,h1⟩:=(show ObjOk X.prog X.w H s.heap a (.frz ob (.lst xs)) from I.hok a _ ea)
  exact PySem.W.kia_one PySem.W.kitx_list I.kIn ⟨_,h1,rfl⟩ e (fun z=>nomatch z) h
 | @tup a xs ea =>
  cases (show u=Value.ref a from rx)
  obtain ⟨_,_,_,p⟩:=(show ObjOk X.prog X.w H s.heap a (.tup xs) from I.hok a _ ea)
  obtain ⟨o,h1,h2,_⟩:=p
  exact PySem.W.kia_one PySem.W.kitx_tuple I.kIn ⟨o,h1,h2⟩ e (fun z=>nomatch z) h
 | @dK a kvs ea =>
  cases (show u=Value.ref a from rx)
  obtain ⟨_,_,vs,_,p⟩:=(show ObjOk X.prog X.w H s.heap a (.dK kvs) from I.hok a _ ea)
  obtain ⟨o,es,ep,h1,h2,_⟩:=p
  exact PySem.W.kia_one PySem.W.kitx_dict I.kIn ⟨o,h1,h2.1⟩ e (fun z=>nomatch z) h
 | @dT a kvs ea =>
  cases (show u=Value.ref a from rx)
  obtain ⟨_,_,xs,_,o,es,ep,h1,h2,_⟩:=(show ObjOk X.prog X.w H s.heap a (.dT kvs) from I.hok a _ ea)
  exact PySem.W.kia_one PySem.W.kitx_dict I.kIn ⟨o,h1,h2.1⟩ e (fun z=>nomatch z) h
 | @ins a C dx fs ea cl ha hn htk hm =>
  cases (show u=Value.ref a from rx)
  obtain ⟨mA,O,_⟩:=nu I.hok ea
  obtain ⟨od,J,_⟩:=O.look
  exact PySem.W.kia_one (PySem.W.kitx_own (cl.get _) cl.hd ha hn htk hm) I.kIn J e (fun z=>nomatch z) h
end
structure Room (k:Nat) (A:Around):Prop where
 hd:A.handled=none
 dp:A.depth + 3 * k + 5 < recursionLimit
 un:A.units + 16 * k + 200 < cLine
theorem Room.mono {j k:Nat} {A:Around} (r:Room k A) (h:j <= k):Room j A:=⟨r.hd,by have:=r.dp;omega,by have:=r.un;omega⟩
theorem Room.deeper {k:Nat} {A:Around} (r:Room (k + 1) A) (env:Env):Room k (A.deeper env):=
 ⟨r.hd,by have:=r.dp;show A.depth + 1 + 3 * k + 5 < _;omega,by have:=r.un;show A.units + 3 + 16 * k + 200 < _;omega⟩
theorem rP {A:Around} {C:Addr} {us:List Value} {kw:List (Str × Value)}:(A.under (.builtin "type.__call__" ⟨.ref C::us,kw⟩)).depth=A.depth + 1:=by
 first | rfl | simp [Around.under,Code.weight,Code.isCreation,Code.isGuard,Code.isCaller,Code.frames,Code.isFrame,guardIds]
theorem rQ {A:Around} {C:Addr} {us:List Value} {kw:List (Str × Value)}:(A.under (.builtin "type.__call__" ⟨.ref C::us,kw⟩)).units=A.units + 1:=by
 first | rfl | simp [Around.under,Code.cUnits,Code.frames,Code.isFrame]
theorem Room.make {k:Nat} {A:Around} (r:Room (k + 1) A) (C:Addr) (us:List Value) (kw:List (Str × Value)):Room k (A.under (.builtin "type.__call__" ⟨.ref C::us,kw⟩)):=
 ⟨r.hd,by have:=r.dp;rw [rP];omega,by have:=r.un;rw [rQ];omega⟩
theorem Room.depth {k:Nat} {A:Around} (r:Room k A):A.depth < recursionLimit:=by have:=r.dp;omega
def CD:TA:=fun _ H Q=>Q [] H
def zW (ta:TE) (tr:TA):TA:=fun σ H Q=>ta σ H fun x H1=>tr σ H1 fun xs H2=>Q (x::xs) H2
section
variable {X:Cx} {e:Expr} {es:List Expr} {te:TE} {t:TA} {pos:Pos}
theorem eG:PA X [] CD:=fun _ _ _ _ H Q I h=>Calls.spliced_nil ⟨[],H,I,.nil,h⟩
theorem dw (ha:PE X e te) (hr:PA X es t) (hs:starEach (e::es) X.env=(false,eval e X.env)::starEach es X.env:=by rfl):PA X (e::es) (zW te t):=by
 intro pos pins s σ H Q I h
 rw [hs]
 show wpAny _ _ (spliced ((false,eval e X.env)::backTo pos (starEach es X.env))) _ _ s
 refine Calls.spliced_cons (thn (ha pins s σ H _ I h) fun u s1 ⟨x,H1,I1,r1,q1⟩=>?_)
 exact thn (hr pos pins s1 σ H1 _ I1 q1) fun us s2 ⟨xs,H2,I2,r2,q2⟩=>⟨x::xs,H2,I2,.cons r1 r2,q2⟩
def CF (t:TA):TE:=fun σ H Q=>t σ H fun xs H1=>xs.length <= sizeLine/\∀ p,H1 p=none->Q (.ref p) (upd H1 p (.tup xs))
def CG (t:TA):TE:=fun σ H Q=>t σ H fun xs H1=>xs.length <= sizeLine/\∀ p,H1 p=none->Q (.ref p) (upd H1 p (.lst xs))
theorem yx {x1} (h:PA X es t):PE X (.Tuple es x1 pos) (CF t):=by
 intro pins s σ H Q I hq
 refine wpAny_Tuple_spliced (thn (h pos pins s σ H _ I hq) fun us s1 ⟨xs,H1,I1,r,z,q⟩=>⟨by rw [<- r.length];exact z,?_⟩)
 have hf:H1 s1.heap.objs.size=none:=I1.hok.fresh (Nat.le_refl _)
 refine ⟨.ref s1.heap.objs.size,upd H1 s1.heap.objs.size (.tup xs),I1.laid (t':=s1.toks) (fun b u e=>Heap.get?_push_of_some _ e) (Nat.le_refl _) ?_,rfl,q _ hf⟩
 exact ⟨z,us,r,⟨_,Heap.get?_push_size _ rfl,rfl,_,rfl⟩⟩
theorem yy (h:PA X es t):PE X (.List es pos) (CG t):=by
 intro pins s σ H Q I hq
 refine wpAny_List_spliced (thn (h pos pins s σ H _ I hq) fun us s1 ⟨xs,H1,I1,r,z,q⟩=>⟨by rw [<- r.length];exact z,?_⟩)
 have hf:H1 s1.heap.objs.size=none:=I1.hok.fresh (Nat.le_refl _)
 refine ⟨.ref s1.heap.objs.size,upd H1 s1.heap.objs.size (.lst xs),I1.laid (t':=s1.toks) (fun b u e=>Heap.get?_push_of_some _ e) (Nat.le_refl _) ?_,rfl,q _ hf⟩
 exact ⟨z,us,0,r,Heap.get?_push_size _ rfl⟩
end
abbrev Sp:=List V->Hp->VK->XK->Prop
abbrev CXT:=List Env->Hp->Shared->XK->Value->Shared->Prop
structure Env0 (P:Program) (w:World) (K:PySem.W.Frag) (mg:Str->Option Value) (base:Heap) (A:Around) (outer:List Env) (s:Shared) (H:Hp):Prop where
 frames:A.frames=some outer
 mod:Mod K mg base
 bs:∀ b o,base.get? b=some o->s.heap.get? b=some o/\H b=none
 bsz:base.objs.size <= s.heap.objs.size
 funs:s.heap.FunFrames base outer
 frf:∀ b ∈ frs outer,H b=none
 hok:HOk P w H s.heap
 bare:AllBare s.gens
def CE (outer:List Env) (P:Program) (w:World) (H:Hp) (s:Shared) (Q:VK) (u:Value) (s':Shared):Prop:=
 ∃ v H',s'.os=s.os/\AllBare s'.gens/\Un (frs outer) [] H H' s.heap s'.heap/\HOk P w H' s'.heap/\RelV v u/\Q v H'
def CR (CX:CXT) (outer:List Env) (P:Program) (w:World) (H:Hp) (s:Shared) (Q:VK) (E:XK) (r:Result) (s':Shared):Prop:=
 match r with
 | .ok (.ret u)=>CE outer P w H s Q u s'
 | .ok _=>False
 | .error e=>CX outer H s E e s'
structure FnOk (P:Program) (w:World) (K:PySem.W.Frag) (mg:Str->Option Value) (base:Heap) (CX:CXT) (k:Nat) (f:Addr) (fd:FuncData) (ps:List Str) (sp:Sp):Prop where
 len:∀ vs H Q E,sp vs H Q E->vs.length=ps.length
 run:∀ (A:Around) (outer:List Env) (s:Shared) (H:Hp) (args:Args) (us:List Value) (vs:List V) (Q:VK) (E:XK),Room k A->Env0 P w K mg base A outer s H->BindsTo s fd args (ps.zip us)->Vals vs us->sp vs H Q E →
  codeAny (model P w) A (.call (.ref f) args) (CR CX outer P w H s Q E) s
theorem Env0.make {P:Program} {w:World} {K:PySem.W.Frag} {mg:Str->Option Value} {base:Heap} {A:Around} {outer:List Env} {s:Shared} {H:Hp} (e:Env0 P w K mg base A outer s H) (C:Addr) (us:List Value) (kw:List (Str × Value)) :
    Env0 P w K mg base (A.under (.builtin "type.__call__" ⟨.ref C::us,kw⟩)) outer s H:=⟨by first | exact e.frames | (simpa [Around.under,Code.envs,Code.isFrame,pushEnvs] using e.frames),e.mod,e.bs,e.bsz,e.funs,e.frf,e.hok,e.bare⟩
section
variable {X:Cx} {pins:List (Addr × Obj)} {σ:St} {H:Hp} {s s':Shared}
theorem Inv.env0 (I:Inv X pins σ H s):Env0 X.prog X.w X.K X.mg X.base X.A X.stack s H:=
 ⟨I.ok.frames,I.ok.mod,I.bs,Nat.le_trans I.ok.bsz I.sz,I.stack,I.stkFree,I.hok,I.bare⟩
theorem Inv.after {Q:VK} {u:Value} (I:Inv X pins σ H s) (h:CE X.stack X.prog X.w H s Q u s'):EP X pins σ Q u s':=by
 obtain ⟨v,H',os,bare,un,hok,r,q⟩:=h
 obtain ⟨hh,g,d,t,os'⟩:=s'
 obtain rfl:os'=s.os:=os
 exact ⟨v,H',I.call (h':=hh) (g':=g) (d':=d) (t':=t) (ch:=[]) un hok bare (fun b z=>absurd z (by simp)),r,q⟩
end
def zX (sp:Sp) (dvs:List V) (E:XK) (t:TA):TE:=fun σ H Q=>t σ H fun vs H1=>sp (vs ++ dvs) H1 Q E
def zY (C:Addr) (sp:Sp) (dvs:List V) (E:XK) (t:TA):TE:=fun σ H Q=>t σ H fun vs H1=>∀ x dx,H1 x=none->H1 dx=none->dx ≠ x →
 sp (.ref x::(vs ++ dvs)) (upd (upd H1 dx (.own x)) x (.ins C dx [])) (fun v H2=>v=.non/\Q (.ref x) H2) E
def Binds (K:PySem.W.Frag) (fd:FuncData) (ps:List Str) (ds:List Value):Prop:=
 ∀ (s:Shared) (us:List Value),K.In s.heap->(us ++ ds).length=ps.length->BindsTo s fd ⟨us,[]⟩ (ps.zip (us ++ ds))
theorem Binds.all {K:PySem.W.Frag} {fd:FuncData} {ps:List Str} (h:∀ us:List Value,us.length=ps.length->bindArgs fd ⟨us,[]⟩=pure (ps.zip us)):Binds K fd ps []:=fun s us _ hl=>by
 rw [List.append_nil] at hl ⊢
 exact .of_eq (h us hl)
def gW (CX:CXT) (X:Cx) (E:XK):Prop:=∀ (pins:List (Addr × Obj)) (σ:St) (H:Hp) (s:Shared) (e:Value) (s':Shared),Inv X pins σ H s->CX X.stack H s E e s'->X.xe e s'
section
variable {X:Cx} {CX:CXT} {k:Nat} {f C:Addr} {fd:FuncData} {ps:List Str} {sp:Sp} {dvs:List V} {ds:List Value} {E:XK} {x m:Str} {p pos apos:Pos} {e o:Expr} {es:List Expr} {ta:TE} {t:TA}
theorem yz {pins:List (Addr × Obj)} {σ:St} {H:Hp} {s:Shared} {Q:VK} {us:List Value} {vs:List V} (F:FnOk X.prog X.w X.K X.mg X.base CX k f fd ps sp) (hr:Room k X.A) (hb:Binds X.K fd ps ds) (hd:Vals dvs ds) (hx:gW CX X E)
    (I:Inv X pins σ H s) (r:Vals vs us) (h:sp (vs ++ dvs) H Q E):wpAny (model X.prog X.w) X.A (call (.ref f) us) (EP X pins σ Q) X.xe s:=by
 have r2:Vals (vs ++ dvs) (us ++ ds):=r.append hd
 have hl:(us ++ ds).length=ps.length:=by rw [<- r2.length];exact F.len _ _ _ _ h
 refine wpAny_call (codeAny_mono (F.run X.A X.stack s H ⟨us,[]⟩ (us ++ ds) (vs ++ dvs) Q E hr I.env0 (hb s us I.kIn hl) r2 h) fun r s' hq=>?_)
 cases r with
 | error e=>exact hx pins σ H s e s' I hq
 | ok fl =>
  cases fl with
  | ret u=>exact I.after hq
  | next=>exact False.elim hq
  | brk=>exact False.elim hq
  | cont=>exact False.elim hq
theorem qU (F:FnOk X.prog X.w X.K X.mg X.base CX k f fd ps sp) (hr:Room k X.A) (hg:Gl X x) (hm:X.mg x=some (.ref f)) (hk:PySem.W.keepIn X.K (.ref f)=true) (hb:Binds X.K fd ps ds) (hd:Vals dvs ds) (hx:gW CX X E)
    (ha:PA X (e::es) t) (hdb:(x == ("__debug__" : Str))=false:=by decide) (he:starEach (e::es) X.env=(false,eval e X.env)::starEach es X.env:=by rfl) (hpl:(backTo pos (starEach es X.env)).any (·.1)=false:=by rfl) :
    PE X (.Call (.Name x p) (e::es) [] pos) (zX sp dvs E t):=by
 intro pins s σ H Q I h
 refine wpAny_Call_Name_kw (kQ I hg hm ?_ hdb)
 refine PySem.W.callWith_K (h₀:=X.base) I.ok.mod.kin hk (thn (ha pos pins s σ H _ I h) fun us s1 ⟨vs,H1,I1,r,q⟩=>⟨I1.kIn,?_⟩) he hpl
 exact yz F hr hb hd hx I1 r q
structure Mk (K:PySem.W.Frag) (C f:Addr):Prop where
 makes:PySem.W.makesIn K C=true
 init:PySem.W.findIn K (.ref C) "__init__" = some (some (.ref f))
 fn:PySem.W.isFn K (.ref f)=true
 kp:PySem.W.keepIn K (.ref C)=true
theorem ve {pins:List (Addr × Obj)} {σ:St} {H:Hp} {s:Shared} {Q:VK} {us:List Value} {vs:List V} (M:Mk X.K C f) (F:FnOk X.prog X.w X.K X.mg X.base CX k f fd ps sp) (hr:Room (k + 1) X.A) (hb:Binds X.K fd ps ds) (hd:Vals dvs ds)
    (hx:gW CX X E) (I:Inv X pins σ H s) (r:Vals vs us)
    (h:∀ x dx,H x=none->H dx=none->dx ≠ x->sp (.ref x::(vs ++ dvs)) (upd (upd H dx (.own x)) x (.ins C dx [])) (fun v H2=>v=.non/\Q (.ref x) H2) E) :
    wpAny (model X.prog X.w) X.A (call (.ref C) us) (EP X pins σ Q) X.xe s:=by
 have hq:=h (s.heap.objs.size + 1) s.heap.objs.size (I.hok.fresh (Nat.le_succ _)) (I.hok.fresh (Nat.le_refl _)) (Nat.ne_of_lt (Nat.lt_succ_self _))
 have I2:=Inv.made (C:=C) I
 have r2:Vals (V.ref (s.heap.objs.size + 1)::(vs ++ dvs)) (Value.ref (s.heap.objs.size + 1)::(us ++ ds)):=.cons rfl (r.append hd)
 have hl:(Value.ref (s.heap.objs.size + 1)::us ++ ds).length=ps.length:=by
  have e:=r2.length
  rw [F.len _ _ _ _ hq] at e
  exact e.symm
 refine wpAny_call (vd (f:=f) I.kIn M.makes M.init (beq_iff_eq.mp M.fn) (codeAny_mono (F.run _ X.stack _ _ ⟨Value.ref (s.heap.objs.size + 1)::us,[]⟩ (Value.ref (s.heap.objs.size + 1)::(us ++ ds)) _ _ E (hr.make C us [])
  (I2.env0.make C us []) (hb _ (Value.ref (s.heap.objs.size + 1)::us) I2.kIn hl) r2 hq) fun r s' hq'=>?_))
 cases r with
 | error e=>exact hx pins σ _ _ e s' I2 hq'
 | ok fl =>
  cases fl with
  | ret u =>
   obtain ⟨v,H',I3,rv,ev,q3⟩:=I2.after hq'
   subst ev
   exact ⟨rv,⟨V.ref (s.heap.objs.size + 1),H',I3,rfl,q3⟩⟩
  | next=>exact False.elim hq'
  | brk=>exact False.elim hq'
  | cont=>exact False.elim hq'
theorem wV (M:Mk X.K C f) (F:FnOk X.prog X.w X.K X.mg X.base CX k f fd ps sp) (hr:Room (k + 1) X.A) (hg:Gl X x) (hm:X.mg x=some (.ref C)) (hb:Binds X.K fd ps ds) (hd:Vals dvs ds) (hx:gW CX X E)
    (ha:PA X (e::es) t) (hdb:(x == ("__debug__" : Str))=false:=by decide) (he:starEach (e::es) X.env=(false,eval e X.env)::starEach es X.env:=by rfl) (hpl:(backTo pos (starEach es X.env)).any (·.1)=false:=by rfl) :
    PE X (.Call (.Name x p) (e::es) [] pos) (zY C sp dvs E t):=by
 intro pins s σ H Q I h
 refine wpAny_Call_Name_kw (kQ I hg hm ?_ hdb)
 refine PySem.W.callWith_K (h₀:=X.base) I.ok.mod.kin M.kp (thn (ha pos pins s σ H _ I h) fun us s1 ⟨vs,H1,I1,r,q⟩=>⟨I1.kIn,?_⟩) he hpl
 exact ve M F hr hb hd hx I1 r q
end
section
variable {X:Cx} {CX:CXT} {k:Nat} {f C:Addr} {fd:FuncData} {ps ks:List Str} {sp:Sp} {E:XK} {x m:Str} {p pos apos kpos:Pos} {e o:Expr} {es:List Expr} {kws:List Keyword} {te ta:TE} {t tk:TA} {nm:Option Str}
structure KBinds (K:PySem.W.Frag) (fd:FuncData) (ps ks:List Str) (g:List Value->List Value->List Value) (gV:List V->List V->List V):Prop where
 to:∀ (s:Shared) (us ws:List Value),K.In s.heap->(g us ws).length=ps.length->BindsTo s fd ⟨us,ks.zip ws⟩ (ps.zip (g us ws))
 rel:∀ {vs:List V} {us:List Value} {zs:List V} {ws:List Value},Vals vs us->Vals zs ws->Vals (gV vs zs) (g us ws)
variable {g:List Value->List Value->List Value} {gV:List V->List V->List V}
end
structure FnScope (N P:List Str) (sc:Scope):Prop where
 kind:sc.kind=.function
 co:sc.isCoroutine=false
 gen:sc.isGenerator=false
 nd:N.Nodup
 pre:N.take P.length=P
 par:∀ x ∈ P,sc.names.lookup x=some .local \/ sc.names.lookup x=some .cell
 nofree:∀ y ∈ sc.names,y.2 ≠ .free
theorem nW {kindOf:Str->Option NameKind} {x:Str}:∀ {binds:List (Str × Value)} {m:Str->Option Value},(∀ v,(x,v) ∉ binds)->bindL kindOf binds m x=m x
 | [],_,_=>rfl
 | (n,v)::r,m,h=>by
  unfold bindL
  rw [nW fun w hw=>h w (List.mem_cons_of_mem _ hw)]
  split
  ·have:x ≠ n:=by rintro rfl;exact h v List.mem_cons_self
   simp [this]
  ·rfl
theorem nZ {kindOf:Str->Option NameKind} {x:Str}:∀ {binds:List (Str × Value)} {m:Str->Option Value},(∀ v,(x,v) ∉ binds)->bindC kindOf binds m x=m x
 | [],_,_=>rfl
 | (n,v)::r,m,h=>by
  unfold bindC
  rw [nZ fun w hw=>h w (List.mem_cons_of_mem _ hw)]
  split
  ·rfl
  ·have:x ≠ n:=by rintro rfl;exact h v List.mem_cons_self
   simp [this]
theorem n6 {kindOf:Str->Option NameKind} {x:Str} {v:Value}:∀ {P:List Str} {vs:List Value} {i:Nat} {m:Str->Option Value},P.Nodup->P[i]?=some x->vs[i]?=some v->kindOf x=some .local →
    bindL kindOf (P.zip vs) m x=some v
 | [],_,_,_,_,h,_,_=>by simp at h
 | _::_,[],_,_,_,_,h,_=>by simp at h
 | p::P,w::vs,0,m,nd,h1,h2,hk=>by
  simp at h1 h2;subst h1;subst h2
  show bindL kindOf ((p,w)::P.zip vs) m p=_
  unfold bindL
  rw [nW fun v hv=>(List.nodup_cons.mp nd).1 (List.of_mem_zip hv).1,if_pos hk]
  simp
 | p::P,w::vs,i + 1,m,nd,h1,h2,hk=>by
  show bindL kindOf ((p,w)::P.zip vs) m x=_
  unfold bindL
  exact n6 (i:=i) (List.nodup_cons.mp nd).2 (by simpa using h1) (by simpa using h2) hk
theorem n8 {kindOf:Str->Option NameKind} {x:Str} {v:Value}:∀ {P:List Str} {vs:List Value} {i:Nat} {m:Str->Option Value},P.Nodup->P[i]?=some x->vs[i]?=some v->kindOf x ≠ some .local →
    bindC kindOf (P.zip vs) m x=some v
 | [],_,_,_,_,h,_,_=>by simp at h
 | _::_,[],_,_,_,_,h,_=>by simp at h
 | p::P,w::vs,0,m,nd,h1,h2,hk=>by
  simp at h1 h2;subst h1;subst h2
  show bindC kindOf ((p,w)::P.zip vs) m p=_
  unfold bindC
  rw [nZ fun v hv=>(List.nodup_cons.mp nd).1 (List.of_mem_zip hv).1,if_neg hk]
  simp
 | p::P,w::vs,i + 1,m,nd,h1,h2,hk=>by
  show bindC kindOf ((p,w)::P.zip vs) m x=_
  unfold bindC
  exact n8 (i:=i) (List.nodup_cons.mp nd).2 (by simpa using h1) (by simpa using h2) hk
def gR (N:List Str) (vs:List V):St:=vs.map some ++ List.replicate (N.length - vs.length) none
def jA (CX:CXT) (P:Program) (w:World) (K:PySem.W.Frag) (mg:Str->Option Value) (base:Heap) (N:List Str) (qual:Str) (scope:Scope) (f:Addr) (cd:Value) (A:Around) (outer:List Env) (s:Shared) (H:Hp) (E:XK):Cx where
 prog:=P
 w:=w
 K:=K
 mg:=mg
 base:=base
 A:=A.deeper (envOfC qual scope s.heap.objs.size f cd)
 N:=N
 s₀:=s
 H₀:=H
 env:=envOfC qual scope s.heap.objs.size f cd
 outer:=outer
 stack:=envOfC qual scope s.heap.objs.size f cd::outer
 ex:=[]
 calm:=true
 fn:=fun _=>true
 pn:=[]
 xe:=fun e s'=>wpAny (model P w) (A.deeper (envOfC qual scope s.heap.objs.size f cd)) (leaving (envOfC qual scope s.heap.objs.size f cd) e) (fun _ s''=>CX outer H s E e s'') (fun e' s''=>CX outer H s E e' s'') s'
theorem pe {sc:Scope} {n:Nat} {x:Str} (h:sc.names.lookup x=some .cell):∃ c,(cellsFrom n sc.names []).lookup x=some c:=by
 have q:=PySem.W.cellsFrom_some sc.names n [] (.inl h)
 exact Option.isSome_iff_exists.mp q
theorem tw {CX:CXT} {P:Program} {w:World} {K:PySem.W.Frag} {mg:Str->Option Value} {base:Heap} {N ps:List Str} {qual:Str} {scope:Scope} {f:Addr} {cd:Value} {A:Around} {outer:List Env} {s s1:Shared} {H:Hp} {E:XK} {us:List Value} {vs:List V}
    (S:FnScope N ps scope) (hd:A.handled=none) (e0:Env0 P w K mg base A outer s H) (hl:vs.length=ps.length) (r:Vals vs us)
    (x:InCallC s s.heap.objs.size (bindL (envOfC qual scope s.heap.objs.size f cd).kindOf (ps.zip us) fun _=>none) (cellsFrom (s.heap.objs.size + 1) scope.names []) (bindC (envOfC qual scope s.heap.objs.size f cd).kindOf (ps.zip us) fun _=>none) s1) :
    Inv (jA CX P w K mg base N qual scope f cd A outer s H E) [] (gR N vs) H s1:=by
 have hpl:ps.length <= N.length:=by have:=congrArg List.length S.pre;rw [List.length_take] at this;omega
 obtain ⟨h1,tk,rfl,hk⟩:=x.done
 have noA:∀ b:Addr,b ∉ (jA CX P w K mg base N qual scope f cd A outer s H E).ex:=fun b z=>absurd (show b ∈ ([]:List Addr) from z) (by simp)
 refine ⟨⟨e0.mod,S.kind,rfl,rfl,Nat.le_refl _,fun y z c h1 h2=>?_,fun y hy=>?_,fun y c _ h=>?_,fun _=>hd,Around.frames_deeper e0.frames,.inr ⟨rfl,rfl⟩,fun b z=>absurd z (noA b),e0.bs,e0.bsz,fun b _ _=>noA b,fun b z=>absurd z (noA b),e0.funs,e0.frf⟩,
  rfl,e0.bare,Un.kept hk,⟨_,x.toInCall.ns,fun i y v h1 h2 h3=>?_⟩,fun y c h=>⟨_,x.cell y c h⟩,e0.hok.fresh (Nat.le_refl _),fun y c h=>?_,fun p hp=>absurd (show p ∈ ([]:List (Addr × Obj)) from hp) (by simp),e0.hok.kept hk,?_⟩
 ·exact name_of_addr x.apart (PySem.mem_of_lookup h1) (PySem.mem_of_lookup h2)
 ·have hy:scope.names.lookup y=some .cell \/ scope.names.lookup y=some .free:=hy
  rcases hy with hy | hy
  ·exact pe hy
  ·exact absurd rfl (S.nofree _ (PySem.mem_of_lookup hy))
 ·exact Nat.le_of_lt (x.above y c (PySem.mem_of_lookup h))
 ·have hi:i < vs.length:=by
     unfold gR at h2
     by_cases hi:i < vs.length
     ·exact hi
     ·rw [List.getElem?_append_right (by simpa using hi)] at h2
      rw [List.getElem?_replicate] at h2
      split at h2 <;> cases h2
  have ha:vs[i]?=some v:=by
   unfold gR at h2
   rw [List.getElem?_append_left (by simpa using hi),List.getElem?_map] at h2
   cases e:vs[i]? with
   | none=>rw [e] at h2;cases h2
   | some a=>rw [e] at h2;cases h2;rfl
  obtain ⟨u,hu,rv⟩:=r.get ha
  have hp:ps[i]?=some y:=by
   rw [<- S.pre,List.getElem?_take_of_lt (by omega)];exact h1
  have ndP:ps.Nodup:=by rw [<- S.pre];exact S.nd.sublist (List.take_sublist _ _)
  refine ⟨u,rv,?_⟩
  rcases S.par y (List.mem_of_getElem? hp) with k | k
  ·exact .inl ⟨k,n6 ndP hp hu k⟩
  ·obtain ⟨c,e⟩:=pe (n:=s.heap.objs.size + 1) k
   refine .inr ⟨.inl k,c,e,?_⟩
   have q:=x.cell y c e
   rw [n8 ndP hp hu (by show scope.names.lookup y ≠ _;rw [k];decide)] at q
   exact q
 ·exact e0.hok.fresh (Nat.le_of_lt (x.above y c (PySem.mem_of_lookup h)))
 ·unfold gR
  show _=N.length
  rw [List.length_append,List.length_map,List.length_replicate]
  omega
theorem zZ {CX:CXT} {P:Program} {w:World} {K:PySem.W.Frag} {mg:Str->Option Value} {base:Heap} {k:Nat} {f:Addr} {name qual:Str} {params:Arguments} {body:List Stmt} {scope:Scope} {dV kV doc pm cdv ct oc:Value} {an od:Option Addr}
    {osl:Array (Option Value)} {N ps:List Str} {sp:Sp} (lk:K.lookup f=some ⟨oc,od,.func (PySem.W.fnOf name qual params body scope dV kV doc pm an cdv ct),osl⟩) (hcd:PySem.W.codeIn K cdv qual=true) (S:FnScope N ps scope)
    (len:∀ vs H Q E,sp vs H Q E->vs.length=ps.length)
    (hbody:∀ (A:Around) (outer:List Env) (s:Shared) (H:Hp) (vs:List V) (Q:VK) (E:XK),Room k (A.deeper (envOfC qual scope s.heap.objs.size f cdv))->sp vs H Q E →
     ∃ t,PSs (jA CX P w K mg base N qual scope f cdv A outer s H E) body t/\t { nx:=fun _ H'=>Q .non H',rt:=Q } (gR N vs) H) :
    FnOk P w K mg base CX (k + 1) f (PySem.W.fnOf name qual params body scope dV kV doc pm an cdv ct) ps sp:=by
 refine ⟨len,fun A outer s H args us vs Q E hr e0 hb r hsp=>?_⟩
 have hl:=len _ _ _ _ hsp
 have KX:K.In s.heap:=e0.mod.kin.keeps fun b o e=>(e0.bs b o e).1
 have lim:s.heap.NoLimit:=e0.mod.nolimit.keeps fun b o e=>(e0.bs b o e).1
 have hkind:∀ y ∈ ps.zip us,scope.names.lookup y.1=some .local \/ (scope.names.lookup y.1=some .cell/\((cellsFrom (s.heap.objs.size + 1) scope.names []).lookup y.1).isSome=true):=fun ⟨n,v⟩ hy=>by
  rcases S.par n (List.of_mem_zip hy).1 with q | q
  ·exact .inl q
  ·exact .inr ⟨q,PySem.W.cellsFrom_some _ _ _ (.inl q)⟩
 refine codeAny_call_function hr.depth (KX _ _ lk) rfl S.co S.gen rfl (PySem.W.codeRec_of KX hcd) (hb _ _ _ _ ?_)
 refine wpAny_newFunctionEnv_cells S.kind hkind fun env he s1 x=>?_
 subst he
 refine ⟨lim.keeps x.toInCall.keep,codeAny_func ?_⟩
 obtain ⟨t,ht,hq⟩:=hbody A outer s H vs Q E (hr.deeper _) hsp
 have I:Inv (jA CX P w K mg base N qual scope f cdv A outer s H E) [] (gR N vs) H s1:=tw S hr.hd e0 hl r x
 refine wpAny_mono (ht [] s1 (gR N vs) H _ I hq) (fun fl s' hs=>?_) fun e s' hs=>hs
 have fin:∀ {σ':St} {H':Hp} {v:V} {u:Value},Inv (jA CX P w K mg base N qual scope f cdv A outer s H E) [] σ' H' s'->RelV v u->Q v H'->CE outer P w H s Q u s':=
  fun {σ' H' v u} J rv q=>⟨v,H',J.os,J.bare,J.base,J.hok,rv,q⟩
 cases fl with
 | ret u =>
  obtain ⟨v,σ',H',J,rv,q⟩:=hs
  exact fin J rv q
 | next =>
  obtain ⟨σ',H',J,q⟩:=hs
  exact fin (v:=V.non) (u:=Value.none) J rfl q
 | brk =>
  obtain ⟨_,_,_,q⟩:=hs
  exact False.elim q
 | cont =>
  obtain ⟨_,_,_,q⟩:=hs
  exact False.elim q
section
variable {X:Cx} {x:Str} {p pos:Pos} {e:Expr} {es:List Expr} {t:TA} {id T:String} {r:List V->Hp->VK->Prop}
def tCB (r:List V->Hp->VK->Prop) (t:TA):TE:=fun σ H Q=>t σ H fun vs H1=>r vs H1 Q
theorem lR (hc:CallR X (.builtin id) r) (hg:Gl X x) (hm:X.mg x=none) (hv:bootBuiltins x=some (.builtin id)) (ha:PA X (e::es) t) (hn:x ≠ "__name__" := by decide) (hdb:(x == ("__debug__" : Str))=false:=by decide)
    (he:starEach (e::es) X.env=(false,eval e X.env)::starEach es X.env:=by rfl) (hpl:(backTo pos (starEach es X.env)).any (·.1)=false:=by rfl):PE X (.Call (.Name x p) (e::es) [] pos) (tCB r t):=by
 intro pins s σ H Q I h
 refine wpAny_Call_Name_kw (iD I hg hm hv ?_ hn hdb)
 exact PyProof.Rows.callWith_builtin1 (thn (ha pos pins s σ H _ I h) fun us s1 ⟨vs,H1,I1,r1,q1⟩=>hc pins s1 σ H1 vs us Q I1 r1 q1) he hpl
theorem kb (hc:CallR X (.type T) r) (hg:Gl X x) (hm:X.mg x=none) (hv:bootBuiltins x=some (.type T)) (ha:PA X (e::es) t) (hn:x ≠ "__name__" := by decide) (hdb:(x == ("__debug__" : Str))=false:=by decide)
    (he:starEach (e::es) X.env=(false,eval e X.env)::starEach es X.env:=by rfl) (hpl:(backTo pos (starEach es X.env)).any (·.1)=false:=by rfl):PE X (.Call (.Name x p) (e::es) [] pos) (tCB r t):=by
 intro pins s σ H Q I h
 refine wpAny_Call_Name_kw (iD I hg hm hv ?_ hn hdb)
 exact PyProof.Rows.callWith_type1 (thn (ha pos pins s σ H _ I h) fun us s1 ⟨vs,H1,I1,r1,q1⟩=>hc pins s1 σ H1 vs us Q I1 r1 q1) he hpl
end
end L2
namespace HT
open PySem PyProof.Rows
section
open PySem.SeqAt
open PySem.AutoSeq1 (wpAny_loadPart')
open PySem.MeetsSeq PySem.MeetsSeq2 PySem.MeetsSeq3
end
section
variable {prog:Program} {w:World} {A:Around} {E:Value->Shared->Prop} {s:Shared}
def sIx (n d:Nat):Option Int->Nat
 | none=>d
 | some v=>if v < 0 then (v + (n:Int)).toNat else min v.toNat n
end
end HT
namespace L2
open PySem PySem.Spec PyProof.Rows
abbrev TO:=St->Hp->(Option Int->Hp->Prop)->Prop
def PO (X:Cx) (e:Option Expr) (t:TO):Prop:=
 ∀ (pins:List (Addr × Obj)) (s:Shared) (σ:St) (H:Hp) (Q:Option Int->Hp->Prop),Inv X pins σ H s->t σ H Q →
  wpAny (model X.prog X.w) X.A (evalPart e X.env) (fun u s'=>∃ o H',Inv X pins σ H' s'/\IsPart u o/\Q o H') X.xe s
def wW:TO:=fun _ H Q=>Q none H
def z6 (t:TE):TO:=fun σ H Q=>t σ H fun x H1=>∃ i,x=.int i/\Q (some i) H1
theorem jB {ns:List Int}:∀ {us:List Value},Vals (ns.map V.int) us->IntsAre us ns:=by
 induction ns with
 | nil=>intro us r;rw [List.map_nil] at r;cases r;exact .nil
 | cons n ns ih =>
  intro us r
  rw [List.map_cons] at r
  cases r with
  | cons r1 r2 =>
   obtain ⟨t,e⟩:=r1
   subst e
   exact .cons n t (ih r2)
section
variable {X:Cx} {e:Expr} {te:TE} {lo hi:Option Expr} {tl th:TO} {pos p2:Pos}
theorem wX:PO X none wW:=by
 intro pins s σ H Q I h
 rw [evalPart_none]
 exact wpAny_pure ⟨none,H,I,.none,h⟩
theorem wY (h:PE X e te):PO X (some e) (z6 te):=by
 intro pins s σ H Q I hw
 rw [evalPart_some]
 refine thn (h pins s σ H _ I hw) fun u s1 ⟨x,H1,I1,r1,q1⟩=>?_
 obtain ⟨i,rfl,q⟩:=q1
 obtain ⟨t,rfl⟩:=r1
 exact ⟨some i,H1,I1,.int i t,q⟩
def SlR (X:Cx) (r:V->Option Int->Option Int->Hp->VK->Prop):Prop:=
 ∀ (pins:List (Addr × Obj)) (s:Shared) (σ:St) (H:Hp) (x:V) (v vl vu:Value) (lo hi:Option Int) (sl:Addr) (Q:VK),Inv X pins σ H s->RelV x v->s.heap.IsSliceOf sl vl vu .none->IsPart vl lo->IsPart vu hi->r x lo hi H Q →
  ∃ T id,typeLookup (.type T) "__getitem__" = pure (some (.builtin id))/\s.TypeIs v T/\wpAny (model X.prog X.w) X.A (getItem v (.ref sl)) (EP X pins σ Q) X.xe s
theorem SlR.or {r r':V->Option Int->Option Int->Hp->VK->Prop} (h:SlR X r) (h':SlR X r'):SlR X (fun x lo hi H Q=>r x lo hi H Q \/ r' x lo hi H Q):=by
 intro pins s σ H x v vl vu lo hi sl Q I rx hs pl pu q
 rcases q with q | q
 ·exact h pins s σ H x v vl vu lo hi sl Q I rx hs pl pu q
 ·exact h' pins s σ H x v vl vu lo hi sl Q I rx hs pl pu q
def tSl (r:V->Option Int->Option Int->Hp->VK->Prop) (te:TE) (tl th:TO):TE:=fun σ H Q=>te σ H fun x H1=>tl σ H1 fun l H2=>th σ H2 fun u H3=>r x l u H3 Q
theorem vf {r:V->Option Int->Option Int->Hp->VK->Prop} (hr:SlR X r) (he:PE X e te) (hl:PO X lo tl) (hu:PO X hi th):PE X (.Subscript e (.Slice lo hi none p2) pos) (tSl r te tl th):=by
 intro pins s σ H Q I h
 refine Subscript_ (thn (he pins s σ H _ I h) fun v s1 ⟨x,H1,I1,r1,q1⟩=>?_)
 refine wpAny_Slice (thn (hl pins s1 σ H1 _ I1 q1) fun vl s2 ⟨l,H2,I2,pl,q2⟩=>thn (hu pins s2 σ H2 _ I2 q2) fun vu s3 ⟨u,H3,I3,pu,q3⟩=>?_)
 rw [evalPart_none]
 refine wpAny_pure ?_
 have I4:Inv X pins σ H3 { s3 with heap:=s3.heap.push { cls:=.type "slice", data:=.fields #[vl,vu,.none] } }:=I3.kept (t':=s3.toks) fun b ob q=>Heap.get?_push_of_some _ q
 obtain ⟨T,id,hT,ht,hg⟩:=hr pins { s3 with heap:=s3.heap.push { cls:=.type "slice", data:=.fields #[vl,vu,.none] } } σ H3 x v vl vu l u s3.heap.objs.size Q I4 r1 (Heap.IsSliceOf.new ..) pl pu q3
 show wpAny (model X.prog X.w) X.A (subscriptTail e (.Slice lo hi none p2) v (.ref s3.heap.objs.size)) (EP X pins σ Q) X.xe { s3 with heap:=s3.heap.push { cls:=.type "slice", data:=.fields #[vl,vu,.none] } }
 exact tail_any (ops:=[.ref s3.heap.objs.size,v]) ht hT hg (by with_unfolding_all rfl)
def nv (xs:List V) (lo hi:Option Int):List V:=(xs.drop (HT.sIx xs.length 0 lo)).take (HT.sIx xs.length xs.length hi - HT.sIx xs.length 0 lo)
theorem qC (xs:List V) (lo hi:Option Int):(nv xs lo hi).length <= xs.length:=by
 unfold nv
 rw [List.length_take,List.length_drop]
 omega
end
def ixN (n:Nat) (i:Int):Option Nat:=if 0 <= i then (if i < n then some i.toNat else none) else if -(n:Int) <= i then some (i + n).toNat else none
def atI {α:Type} (xs:List α) (i:Int):Option α:=(ixN xs.length i).bind fun j=>xs[j]?
theorem kT {n:Nat} {i:Int} {j:Nat} (h:ixN n i=some j):seqIndex? i n=some j/\j < n/\-(n:Int) <= i/\i < n:=by
 unfold ixN at h
 by_cases h0:0 <= i
 ·rw [if_pos h0] at h
  by_cases h1:i < n
  ·rw [if_pos h1] at h
   have e:i.toNat=j:=Option.some.inj h
   exact ⟨by rw [seqIndex_of h0 h1,e],by omega,by omega,h1⟩
  ·rw [if_neg h1] at h;cases h
 ·rw [if_neg h0] at h
  by_cases h1:-(n:Int) <= i
  ·rw [if_pos h1] at h
   have e:(i + n).toNat=j:=Option.some.inj h
   exact ⟨by rw [seqIndex_neg (by omega) h1,e],by omega,h1,by omega⟩
  ·rw [if_neg h1] at h;cases h
theorem kU {α:Type} {xs:List α} {i:Int} {v:α} (h:atI xs i=some v):∃ j,seqIndex? i xs.length=some j/\xs[j]?=some v/\j < xs.length/\-(xs.length:Int) <= i/\i < xs.length:=by
 unfold atI at h
 cases e:ixN xs.length i with
 | none=>rw [e] at h;cases h
 | some j =>
  rw [e] at h
  obtain ⟨h1,h2,h3,h4⟩:=kT e
  exact ⟨j,h1,h,h2,h3,h4⟩
def nw (b:Expr):Prop:=∀ o i,subscripted b false o i=operate [o,i] (getItem o i)
def IxR (X:Cx) (r:R2):Prop:=
 ∀ (value slice:Expr) (pins:List (Addr × Obj)) (s:Shared) (σ:St) (H:Hp) (x y:V) (v u:Value) (Q:VK),Inv X pins σ H s->RelV x v->RelV y u->r x y H Q →
  subscripted slice false v u=operate [v,u] (getItem v u)->wpAny (model X.prog X.w) X.A (subscriptTail value slice v u) (EP X pins σ Q) X.xe s
def MtR (X:Cx) (id:String) (r:V->List V->Hp->VK->Prop):Prop:=
 ∀ (pins:List (Addr × Obj)) (s:Shared) (σ:St) (H:Hp) (x:V) (xs:List V) (v:Value) (us:List Value) (Q:VK),Inv X pins σ H s->RelV x v->Vals xs us->r x xs H Q →
  wpAny (model X.prog X.w) X.A (call (.builtin id) (v::us)) (EP X pins σ Q) X.xe s
section
variable {X:Cx} {a b:Expr} {ta tb:TE} {pos:Pos}
theorem IxR.or {r r':R2} (h:IxR X r) (h':IxR X r'):IxR X (fun x y H Q=>r x y H Q \/ r' x y H Q):=by
 intro value slice pins s σ H x y v u Q I rx ry q hs
 rcases q with q | q
 ·exact h value slice pins s σ H x y v u Q I rx ry q hs
 ·exact h' value slice pins s σ H x y v u Q I rx ry q hs
theorem z7 {r:R2} (hr:IxR X r) (ha:PE X a ta) (hb:PE X b tb) (hs:nw b):PE X (.Subscript a b pos) (tOp r ta tb):=by
 intro pins s σ H Q I h
 exact Subscript_ (u9 ha hb I h fun v u s2 x y H2 I2 rx ry q=>hr a b pins s2 σ H2 x y v u Q I2 rx ry q (hs _ _))
def yA (K:PySem.W.Frag):R2:=fun x y H Q=>∃ p xs i v,x=.ref p/\y=.int i/\SqL K H p xs/\atI xs i=some v/\Q v H
def yB (K:PySem.W.Frag):R2:=fun x y H Q=>∃ p xs i v,x=.ref p/\y=.int i/\SqT K H p xs/\atI xs i=some v/\Q v H
def yC:R2:=fun x y H Q=>∃ z i c,x=.str z/\y=.int i/\z.length <= sizeLine/\atI z.cps.toList i=some c/\Q (.str ⟨#[c]⟩) H
theorem ix_list:IxR X (yA X.K):=by
 intro value slice pins s σ H x y v u Q I rx ry h hs
 obtain ⟨p,xs,i,z,rfl,rfl,hq,he,q⟩:=h
 cases rx
 obtain ⟨t,rfl⟩:=ry
 obtain ⟨its,r,pl,hz⟩:=I.list hq
 obtain ⟨j,h1,h2,h3,h4,h5⟩:=kU he
 obtain ⟨w,ew,rw'⟩:=r.get h2
 have hl:=r.length
 have hn:=je
 have fin:EP X pins σ Q w s:=⟨z,H,I,rw',q⟩
 by_cases h0:0 <= i
 ·have hj:i.toNat=j:=by
     rw [seqIndex_of h0 h5] at h1
     exact Option.some.inj h1
  exact item_listR pl.isList h0 (by omega) (by rw [hj];simpa using ew) fin hs
 ·have hj:(i + (its.toArray.size:Int)).toNat=j:=by
     rw [seqIndex_neg (by omega) h4] at h1
     rw [List.size_toArray,<- hl]
     exact Option.some.inj h1
  exact subscriptTail_builtinR (x:=w) pl.isList.typeIs slot_list_getitem.lookup
   (wpAny_getItem_list_neg (Q:=fun r s'=>r=w/\EP X pins σ Q r s') pl.isList (by omega) (by rw [List.size_toArray] <;> omega) (by omega) (by rw [hj];simpa using ew) ⟨rfl,fin⟩) hs
theorem ix_tup:IxR X (yB X.K):=by
 intro value slice pins s σ H x y v u Q I rx ry h hs
 obtain ⟨p,xs,i,z,rfl,rfl,hq,he,q⟩:=h
 cases rx
 obtain ⟨t,rfl⟩:=ry
 obtain ⟨its,r,pl,hz⟩:=I.tuple hq
 obtain ⟨j,h1,h2,h3,h4,h5⟩:=kU he
 obtain ⟨w,ew,rw'⟩:=r.get h2
 have hl:=r.length
 have hn:=je
 have fin:EP X pins σ Q w s:=⟨z,H,I,rw',q⟩
 exact subscriptTail_builtinR (x:=w) pl.typeIs slot_tuple_getitem.lookup
  (getItem_tuple (j:=j) (Q:=fun r s'=>r=w/\EP X pins σ Q r s') pl (by omega) (by omega) (by rw [List.size_toArray,<- hl];exact h1) (by simpa using ew) ⟨rfl,fin⟩) hs
theorem yD:IxR X yC:=by
 intro value slice pins s σ H x y v u Q I rx ry h hs
 obtain ⟨z,i,c,rfl,rfl,hz,he,q⟩:=h
 obtain ⟨t,rfl⟩:=rx
 obtain ⟨t',rfl⟩:=ry
 obtain ⟨j,h1,h2,h3,h4,h5⟩:=kU he
 have hl:z.cps.toList.length=z.length:=by simp [Str.length]
 rw [hl] at h1 h4 h5
 have hn:=je
 exact tail_any (typeIs_str s z t) slot_str_getitem.lookup (getItem_str (c:=c) (by
  have e1:decide (i < -(2 ^ 63:Int))=false:=decide_eq_false (by omega)
  have e2:decide (i ≥ 2 ^ 63)=false:=decide_eq_false (by omega)
  rw [e1,e2,Bool.or_false]) (by rw [h1];simpa using h2) ⟨.str ⟨#[c]⟩,H,I.tok _,⟨_,rfl⟩,q⟩) hs
def rIx (K:PySem.W.Frag):R2:=fun x y H Q=>yA K x y H Q \/ yB K x y H Q \/ yC x y H Q
theorem yE:IxR X (rIx X.K):=ix_list.or (ix_tup.or yD)
theorem rR (its:List Value) (n j:Nat) (u:Value):Obj.mapSeq (·.setIfInBounds j u) { cls:=.type "list", data:=.seq its.toArray n }={ cls:=.type "list", data:=.seq (its.set j u).toArray n }:=by
 simp [Obj.mapSeq]
theorem Inv.lst {pins:List (Addr × Obj)} {σ:St} {H:Hp} {s:Shared} {p:Addr} {xs:List V} (I:Inv X pins σ H s) (h:H p=some (.lst xs)) :
    ∃ (its:List Value) (n:Nat),Vals xs its/\s.heap.get? p=some { cls:=.type "list", data:=.seq its.toArray n }/\xs.length <= sizeLine:=by
 obtain ⟨z,its,n,r,e⟩:=I.hok p _ h
 exact ⟨its,n,r,e,z⟩
theorem Inv.lstUpd {pins:List (Addr × Obj)} {σ:St} {H:Hp} {s:Shared} {p:Addr} {xs ys:List V} {its its':List Value} {n n':Nat} {f:Obj->Obj} (I:Inv X pins σ H s) (h:H p=some (.lst xs))
    (ho:s.heap.get? p=some { cls:=.type "list", data:=.seq its.toArray n }) (hf:f { cls:=.type "list", data:=.seq its.toArray n }={ cls:=.type "list", data:=.seq its'.toArray n' }) (r:Vals ys its') (hz:ys.length <= sizeLine) (t:Nat) :
    Inv X pins σ (upd H p (.lst ys)) { s with heap:=s.heap.update p f,toks:=t }:=by
 have e:(s.heap.update p f).get? p=some { cls:=.type "list", data:=.seq its'.toArray n' }:=by
  rw [Heap.get?_update_self f ho (by rw [hf] <;> rfl),hf]
 refine I.write (x:=p) (e:=p) (by rw [h];trivial) (.inl rfl) (fun b u hb q=>(Heap.get?_update_other _ _ (Ne.symm hb)).trans q) ⟨_,e⟩ ?_
 exact ⟨hz,its',n',r,e⟩
def z8:V->V->V->Hp->(Hp->Prop)->Prop:=fun o i v H Q=>∃ p xs k j,o=.ref p/\i=.int k/\H p=some (.lst xs)/\ixN xs.length k=some j/\Q (upd H p (.lst (xs.set j v)))
theorem vg:uZ X z8:=by
 intro pins s σ H o i v ov iv u Q I ro ri rv h
 obtain ⟨p,xs,k,j,rfl,rfl,hp,hj,q⟩:=h
 cases ro
 obtain ⟨t,rfl⟩:=ri
 obtain ⟨its,n,r,ho,hz⟩:=I.lst hp
 obtain ⟨h1,h2,h3,h4⟩:=kT hj
 have hl:=r.length
 have hn:=je
 have I':Inv X pins σ (upd H p (.lst (xs.set j v))) { s with heap:=s.heap.update p (Obj.mapSeq (·.setIfInBounds j u)) }:=
  I.lstUpd hp ho (rR its n j u) (r.set rv j) (by rw [List.length_set];exact hz) s.toks
 by_cases h0:0 <= k
 ·have hk:k.toNat=j:=by
     rw [seqIndex_of h0 h4] at h1
     exact Option.some.inj h1
  exact PySem.W.ki_setAt ho h0 (by omega) (by rw [List.size_toArray,<- hl];exact h4) (by rw [hk];exact ⟨_,I',q⟩)
 ·have hk:(k + (its.toArray.size:Int)).toNat=j:=by
     rw [seqIndex_neg (by omega) h3] at h1
     rw [List.size_toArray,<- hl]
     exact Option.some.inj h1
  exact PySem.W.ki_setBack ho (by omega) (by rw [List.size_toArray,<- hl];exact h3) (by omega) (by rw [hk];exact ⟨_,I',q⟩)
theorem pf (lo hi:Option Int) (n:Nat):(sliceBounds lo hi none n).1=((HT.sIx n 0 lo:Nat):Int)/\(sliceBounds lo hi none n).2.1=((HT.sIx n n hi:Nat):Int)/\(sliceBounds lo hi none n).2.2=1:=by
 refine ⟨?_,?_,rfl⟩
 ·cases lo with
  | none=>simp [sliceBounds,HT.sIx]
  | some i =>
   simp only [sliceBounds,HT.sIx,Option.getD_none,show (1:Int) > 0 by decide,if_true]
   by_cases h:i < 0
   ·simp only [h,if_true] <;> omega
   ·simp only [h,if_false] <;> omega
 ·cases hi with
  | none=>simp [sliceBounds,HT.sIx]
  | some i =>
   simp only [sliceBounds,HT.sIx,Option.getD_none,show (1:Int) > 0 by decide,if_true]
   by_cases h:i < 0
   ·simp only [h,if_true] <;> omega
   ·simp only [h,if_false] <;> omega
theorem oQ (its:List Value) (lo hi:Option Int):slicePick its.toArray lo hi none=((its.drop (HT.sIx its.length 0 lo)).take (HT.sIx its.length its.length hi - HT.sIx its.length 0 lo)).toArray:=by
 obtain ⟨h1,h2,h3⟩:=pf lo hi its.toArray.size
 unfold slicePick
 rw [h1,h2,h3]
 simp only [sliceRange_one,pick_run,List.size_toArray] <;> rfl
def CH (K:PySem.W.Frag):V->Option Int->Option Int->Hp->VK->Prop:=fun x lo hi H Q=>∃ a xs,x=.ref a/\SqL K H a xs/\∀ p,H p=none->Q (.ref p) (upd H p (.lst (nv xs lo hi)))
theorem wZ:SlR X (CH X.K):=by
 intro pins s σ H x v vl vu lo hi sl Q I rx hs pl pu h
 obtain ⟨a,xs,rfl,hx,q⟩:=h
 cases rx
 obtain ⟨its,r,ht,hz⟩:=I.list hx
 have hlen:=r.length
 refine ⟨"list", _,slot_list_getitem.lookup,ht.isList.typeIs,?_⟩
 refine wpAny_getItem_list_slice ht.isList hs pl pu .none (by simp) ?_ (by rw [List.size_toArray] <;> omega)
 rw [oQ,<- hlen]
 refine ⟨.ref s.heap.objs.size,_,I.laid (t':=s.toks) (o:=.lst (nv xs lo hi)) (fun b ob q=>Heap.get?_push_of_some _ q) (Nat.le_refl _) ?_,rfl,q _ (I.hok.fresh (Nat.le_refl _))⟩
 exact ⟨Nat.le_trans (qC xs lo hi) hz,_,0,(r.drop (HT.sIx xs.length 0 lo)).take (HT.sIx xs.length xs.length hi - HT.sIx xs.length 0 lo),Heap.get?_push_size _ rfl⟩
theorem ph:CallR X (.builtin "len") (fun xs H Q=>∃ p ys,xs=[.ref p]/\(SqL X.K H p ys \/ SqT X.K H p ys)/\Q (.int ys.length) H):=by
 intro pins s σ H xs us Q I r h
 obtain ⟨p,ys,rfl,hq,q⟩:=h
 obtain ⟨u,rfl,rx⟩:=iX r
 cases rx
 have hn:=je
 rcases hq with hq | hq
 ·obtain ⟨its,r',pl,hz⟩:=I.list hq
  have hlen:=r'.length
  exact Calls.call_len_list pl.isList (by simp only [List.size_toArray] <;> omega) ⟨.int ys.length,H,I.tok _,⟨s.toks + 1,by rw [List.size_toArray,hlen]⟩,q⟩
 ·obtain ⟨its,r',pl,hz⟩:=I.tuple hq
  have hlen:=r'.length
  exact len_tuple pl (by simp only [List.size_toArray] <;> omega) ⟨.int ys.length,H,I.tok _,⟨s.toks + 1,by rw [List.size_toArray,hlen]⟩,q⟩
theorem pi:CallR X (.builtin "len") (fun xs H Q=>∃ z,xs=[.str z]/\z.length <= sizeLine/\Q (.int z.length) H):=by
 intro pins s σ H xs us Q I r h
 obtain ⟨z,rfl,hz,q⟩:=h
 obtain ⟨u,rfl,t,rfl⟩:=iX r
 have hn:=je
 exact len_str (by omega) ⟨.int z.length,H,I.tok _,⟨_,rfl⟩,q⟩
theorem CallR.or {f:Value} {r r':List V->Hp->VK->Prop} (h:CallR X f r) (h':CallR X f r'):CallR X f (fun xs H Q=>r xs H Q \/ r' xs H Q):=by
 intro pins s σ H xs us Q I rs q
 rcases q with q | q
 ·exact h pins s σ H xs us Q I rs q
 ·exact h' pins s σ H xs us Q I rs q
theorem pj:CallR X (.type "list") (fun xs H Q=>∃ p ys,xs=[.ref p]/\(SqL X.K H p ys \/ SqT X.K H p ys)/\∀ l,H l=none->Q (.ref l) (upd H l (.lst ys))):=by
 intro pins s σ H xs us Q I r h
 obtain ⟨p,ys,rfl,hq,q⟩:=h
 obtain ⟨u,rfl,rx⟩:=iX r
 cases rx
 have fin:∀ (its:List Value),Vals ys its->ys.length <= sizeLine->∀ (h':Heap) (c':Nat),(∀ b o',s.heap.get? b=some o'->h'.get? b=some o') →
     h'.get? s.heap.objs.size=some { cls:=.type "list", dict:=none,data:=.seq its.toArray c',slots:=#[] }->EP X pins σ Q (.ref s.heap.objs.size) { s with heap:=h' }:=fun its r' hz h' c' kp e =>
  ⟨.ref s.heap.objs.size,_,I.laid (t':=s.toks) kp (Nat.le_refl _) (show ObjOk X.prog X.w _ h' _ (.lst ys) from ⟨hz,its,c',r',e⟩),rfl,q _ (I.hok.fresh (Nat.le_refl _))⟩
 rcases hq with hq | hq
 ·obtain ⟨its,r',pl,hz⟩:=I.list hq
  have hlen:=r'.length
  obtain ⟨o,ho,hc,n,hd⟩:=pl.isList
  exact call_list_seq p (.inl rfl) ho hc hd (fun h' c' kp e=>fin its r' hz h' c' kp e) (by simp only [List.size_toArray] <;> omega)
 ·obtain ⟨its,r',pl,hz⟩:=I.tuple hq
  have hlen:=r'.length
  obtain ⟨o,ho,hc,n,hd⟩:=pl
  exact call_list_seq p (.inr rfl) ho hc hd (fun h' c' kp e=>fin its r' hz h' c' kp e) (by simp only [List.size_toArray] <;> omega)
def tyV (K:PySem.W.Frag) (T:String) (x:V) (H:Hp):Prop:=match x with
 | .str _=>T = "str"
 | .int _=>T = "int"
 | .ref p=>(T = "list" /\ ∃ xs,SqL K H p xs) \/ (T = "tuple" /\ ∃ o,K.lookup p=some o/\o.cls=.type "tuple" /\ o.dict=none) ∨
     (T = "dict" /\ ((∃ kvs,H p=some (.dK kvs)) \/ ∃ kvs,H p=some (.dT kvs))) \/ (T = "set" /\ ∃ S n,H p=some (.set S n))
 | _=>False
theorem yF {pins:List (Addr × Obj)} {σ:St} {H:Hp} {s:Shared} {T:String} {x:V} {v:Value} (I:Inv X pins σ H s) (r:RelV x v) (ty:tyV X.K T x H) :
    s.TypeIs v T/\∀ a,v=.ref a->∃ ob,s.heap.get? a=some ob/\ob.dict=none:=by
 cases x with
 | str z =>
  obtain ⟨t,rfl⟩:=r
  cases (show T = "str" from ty)
  exact ⟨typeIs_str s z t,fun _ e=>nomatch e⟩
 | int i =>
  obtain ⟨t,rfl⟩:=r
  cases (show T = "int" from ty)
  exact ⟨typeIs_int s i t,fun _ e=>nomatch e⟩
 | ref p =>
  cases r
  rcases ty with ⟨rfl,xs,hq⟩ | ⟨rfl,o,hk,hc,hd⟩ | ⟨rfl,hk⟩ | ⟨rfl,S,n,hk⟩
  ·obtain ⟨its,_,pl,_⟩:=I.list hq
   refine ⟨pl.isList.typeIs,fun a e=>?_⟩
   cases e
   obtain ⟨o,n,e,c,hd,_⟩:=pl
   exact ⟨o,e,hd⟩
  ·refine ⟨⟨o,I.kIn p o hk,hc⟩,fun a e=>?_⟩
   cases e
   exact ⟨o,I.kIn _ o hk,hd⟩
  ·have z:∃ o,s.heap.get? p=some o/\o.ExactDict:=by
      rcases hk with ⟨kvs,hk⟩ | ⟨kvs,hk⟩
      ·obtain ⟨_,_,_,_,o,_,_,e,ex,_⟩:=I.hok p _ hk
       exact ⟨o,e,ex⟩
      ·obtain ⟨_,_,_,_,o,_,_,e,ex,_⟩:=I.hok p _ hk
       exact ⟨o,e,ex⟩
   obtain ⟨o,e,ex⟩:=z
   refine ⟨⟨o,e,ex.1⟩,fun a e2=>?_⟩
   cases e2
   exact ⟨o,e,ex.2.1⟩
  ·obtain ⟨o,_,_,_,e,ex,_⟩:=I.hok p _ hk
   refine ⟨⟨o,e,ex.1⟩,fun a e2=>?_⟩
   cases e2
   exact ⟨o,e,ex.2.1⟩
 | _=>exact False.elim ty
def tBM (K:PySem.W.Frag) (T:String) (r:V->List V->Hp->VK->Prop) (to:TE) (t:TA):TE:=fun σ H Q=>to σ H fun x H1=>tyV K T x H1/\t σ H1 fun xs H2=>r x xs H2 Q
variable {o e:Expr} {es:List Expr} {to:TE} {t:TA} {name:Str} {apos cpos:Pos} {T id:String} {r:V->List V->Hp->VK->Prop}
theorem kW (pa:PlainAttrs T) (slot:Slot T name id) (hty:typeOf (.builtin id)=pure (.type "method_descriptor")) (hm:MtR X id r) (ho:PE X o to) (ha:PA X (e::es) t)
    (hbase:attributeBase o name X.env (eval o X.env)=eval o X.env:=by rfl)
    (hfew:((backTo cpos (starEach (e::es) X.env)).all (fun x=>!x.1) && (backToKw cpos (keywordEach [] X.env)).all (fun x=>x.1.isSome)
     && decide ((e::es).length + ([]:List Keyword).length + (if ([]:List Keyword).isEmpty then 0 else 1) < 30))=true:=by rfl)
    (hline:(apos.endLine == cpos.line)=true:=by rfl) (hs:starEach (e::es) X.env=(false,eval e X.env)::starEach es X.env:=by rfl) (hplain:(backTo cpos (starEach es X.env)).any (·.1)=false:=by rfl) :
    PE X (.Call (.Attribute o name apos) (e::es) [] cpos) (tBM X.K T r to t):=by
 intro pins s σ H Q I h
 refine wpAny_Call_method_late hbase hfew hline rfl (thn (ho pins s σ H _ I h) fun v s1 ⟨x,H1,I1,r1,ty,q1⟩=>?_)
 obtain ⟨h1,h2⟩:=yF I1 r1 ty
 refine ⟨T,id,pa,slot,hty,h1,h2,?_⟩
 have hA:=ha cpos pins s1 σ H1 _ I1 q1
 rw [hs] at hA ⊢
 refine Calls.callWith_builtin (by show (false || (backTo cpos (starEach es X.env)).any (·.1))=false;rw [hplain] <;> rfl) (Calls.evalArgs_plain ?_)
 exact thn hA fun us s2 ⟨vs,H2,I2,r2,q2⟩=>hm pins s2 σ H2 x vs v us Q I2 r1 r2 q2
/- xs.append(e),list.index on a module's tuple .. are MtR facts of 06m -/
end
def MtM (X:Cx) (id:String) (r:V->List V->Hp->VK->Prop):Prop:=
 ∀ (pins:List (Addr × Obj)) (s:Shared) (σ:St) (H:Hp) (x:V) (xs:List V) (v:Value) (us:List Value) (Q:VK),Inv X pins σ H s->RelV x v->Vals xs us->r x xs H Q →
  wpAny (model X.prog X.w) X.A (call (.builtin id) (v::us)) (EP X pins σ Q) X.xe s
theorem Vals.one:∀ {x:V} {us:List Value},Vals [x] us->∃ u,us=[u]/\RelV x u
 | _,_,.cons r .nil=>⟨_,rfl,r⟩
theorem Vals.eraseIdx:∀ {xs:List V} {us:List Value} (i:Nat),Vals xs us->Vals (xs.eraseIdx i) (us.eraseIdx i)
 | _,_,_,.nil=>.nil
 | _,_,0,.cons _ t=>t
 | _,_,i + 1,.cons r t=>.cons r (Vals.eraseIdx i t)
theorem n9 {α:Type}:∀ (l:List α) (i:Nat),(l.eraseIdx i).length <= l.length
 | [],_=>Nat.le_refl _
 | _::_,0=>Nat.le_succ _
 | _::r,i + 1=>Nat.succ_le_succ (n9 r i)
section
variable {X:Cx} {pins:List (Addr × Obj)} {σ:St} {H:Hp} {s:Shared} {l b:Addr} {xs ys zs:List V}
theorem Inv.lset {its its':List Value} {n:Nat} {f:Array Value->Array Value} {t':Nat} (I:Inv X pins σ H s) (hH:H l=some (.lst xs))
    (e:s.heap.get? l=some { cls:=.type "list", data:=.seq its.toArray n }) (hf:f its.toArray=its'.toArray) (hv:Vals ys its') (hz:ys.length <= sizeLine) :
    Inv X pins σ (upd H l (.lst ys)) { s with heap:=s.heap.update l (Obj.mapSeq f),toks:=t' }:=by
 have q:=PySem.IsL.update e f
 rw [hf] at q
 refine I.write (x:=l) (e:=l) (by rw [hH];exact trivial) (.inl rfl) (fun b' u hb hu=>(Heap.get?_update_other s.heap (Obj.mapSeq f) (Ne.symm hb)).trans hu) ⟨_,q⟩ ?_
 exact ⟨hz,its',_,hv,q⟩
theorem Inv.lnew {its:List Value} {t':Nat} (I:Inv X pins σ H s) (hv:Vals ys its) (hz:ys.length <= sizeLine) :
    Inv X pins σ (upd H s.heap.objs.size (.lst ys)) { s with heap:=s.heap.push { cls:=.type "list", data:=.seq its.toArray },toks:=t' }:=
 I.laid (fun _ _ q=>Heap.get?_push_of_some _ q) (Nat.le_refl _) ⟨hz,its,0,hv,Heap.get?_push_size _ rfl⟩
theorem Inv.fresh (I:Inv X pins σ H s):H s.heap.objs.size=none:=I.hok.fresh (Nat.le_refl _)
theorem Inv.lstM (I:Inv X pins σ H s) (hH:H l=some (.lst xs)):xs.length <= sizeLine/\∃ (its:List Value) (n:Nat),Vals xs its/\xs.length=its.length/\s.heap.get? l=some { cls:=.type "list", data:=.seq its.toArray n }:=by
 obtain ⟨z,its,n,r,e⟩:=I.hok l _ hH
 exact ⟨z,its,n,r,r.length,e⟩
theorem vh {n:Nat} (h:n <= sizeLine):Builtin.List.listTooLong n=false:=by
 unfold Builtin.List.listTooLong
 exact decide_eq_false (by omega)
end
section
variable {X:Cx}
def w4:V->List V->Hp->VK->Prop:=fun x vs H Q=>∃ l xs y,x=.ref l/\vs=[y]/\H l=some (.lst xs)/\xs.length < sizeLine/\Q .non (upd H l (.lst (xs ++ [y])))
theorem kc:MtM X "list.append" w4:=by
 intro pins s σ H x vs v us Q I rx rv h
 obtain ⟨l,xs,y,rfl,rfl,hH,hz,q⟩:=h
 cases rx
 obtain ⟨u,rfl,ru⟩:=rv.one
 obtain ⟨z,its,n,r,hl,e⟩:=I.lstM hH
 refine call_meets F.slot_list_append ⟨_,e,rfl⟩ F.entry_list_append (F.args_list_append_2 _ _) (PySem.list_append l its.toArray n u (by rw [List.size_toArray];omega)) ⟨e,?_⟩
 refine ⟨.non,_,I.lset (its':=its ++ [u]) hH e (by simp) (r.append (.cons ru .nil)) ?_,rfl,q⟩
 rw [List.length_append,List.length_singleton]
 omega
def w5:V->List V->Hp->VK->Prop:=fun x vs H Q=>∃ l b xs zs,x=.ref l/\vs=[.ref b]/\H l=some (.lst xs)/\H b=some (.lst zs)/\xs.length + zs.length <= sizeLine/\Q .non (upd H l (.lst (xs ++ zs)))
theorem tz:MtM X "list.extend" w5:=by
 intro pins s σ H x vs v us Q I rx rv h
 obtain ⟨l,b,xs,zs,rfl,rfl,hH,hB,hz,q⟩:=h
 cases rx
 obtain ⟨u,rfl,ru⟩:=rv.one
 cases ru
 obtain ⟨z,its,n,r,hl,e⟩:=I.lstM hH
 obtain ⟨z2,its2,n2,r2,hl2,e2⟩:=I.lstM hB
 have hsz:its.toArray.size + its2.toArray.size <= sizeLine:=by rw [List.size_toArray,List.size_toArray];omega
 have hlong:¬ (!its.toArray.isEmpty && Builtin.List.listTooLong (its.toArray.size + its2.toArray.size))=true:=by
  rw [vh hsz,Bool.and_false]
  exact Bool.false_ne_true
 refine call_meets F.slot_list_extend ⟨_,e,rfl⟩ F.entry_list_extend (F.args_list_extend_2 _ _)
  (AutoSeq1.list_extend_list_list_0 l its.toArray n b its2.toArray n2 hlong (by rw [List.size_toArray];omega) (by omega)) ⟨e,e2,?_⟩
 refine ⟨.non,_,I.lset (its':=its ++ its2) hH e (by simp) (r.append r2) ?_,rfl,q⟩
 rw [List.length_append]
 omega
def yG:V->List V->Hp->VK->Prop:=fun x vs H Q=>∃ l xs i k y,x=.ref l/\vs=[.int i]/\H l=some (.lst xs)/\-(2 ^ 63) <= i/\i < 2 ^ 63/\seqIndex? i xs.length=some k/\xs[k]?=some y/\Q y (upd H l (.lst (xs.eraseIdx k)))
theorem vk:MtM X "list.pop" yG:=by
 intro pins s σ H x vs v us Q I rx rv h
 obtain ⟨l,xs,i,k,y,rfl,rfl,hH,h1,h2,hk,hy,q⟩:=h
 cases rx
 obtain ⟨u,rfl,ru⟩:=rv.one
 obtain ⟨t,rfl⟩:=ru
 obtain ⟨z,its,n,r,hl,e⟩:=I.lstM hH
 obtain ⟨w,hw,rw'⟩:=r.get hy
 refine call_meets F.slot_list_pop ⟨_,e,rfl⟩ F.entry_list_pop (F.args_list_pop_2 _ _)
  (MeetsSeq.list_pop_at l its.toArray n i t k w (fitsIndex_both h1 h2) (by rw [List.size_toArray,<- hl];exact hk) (by rw [<- Array.getElem?_toList];exact hw) (by rw [List.size_toArray];omega)) ⟨e,?_⟩
 refine ⟨y,_,I.lset (its':=its.eraseIdx k) hH e ?_ (r.eraseIdx k) ?_,rw',q⟩
 ·show its.toArray.eraseIdxIfInBounds k=(its.eraseIdx k).toArray
  rw [List.eraseIdxIfInBounds_toArray]
 ·have:=n9 xs k
  omega
def CI:R2:=fun x y H Q=>∃ l b xs zs,x=.ref l/\y=.ref b/\H l=some (.lst xs)/\H b=some (.lst zs)/\xs.length + zs.length <= sizeLine/\∀ p,H p=none->Q (.ref p) (upd H p (.lst (xs ++ zs)))
theorem yH:OpR X (binaryOp .Add) CI:=by
 intro pins s σ H x y v u Q I rx ry h
 obtain ⟨l,b,xs,zs,rfl,rfl,hH,hB,hz,q⟩:=h
 cases rx
 cases ry
 obtain ⟨z,its,n,r,hl,e⟩:=I.lstM hH
 obtain ⟨z2,its2,n2,r2,hl2,e2⟩:=I.lstM hB
 refine PySem.P.add_list e e2 ?_ (by rw [List.size_toArray,List.size_toArray];omega)
 have ea:its.toArray ++ its2.toArray=(its ++ its2).toArray:=by simp
 rw [ea]
 exact ⟨.ref _,_,I.lnew (t':=s.toks) (r.append r2) (by rw [List.length_append];omega),rfl,q _ I.fresh⟩
end
section
variable {prog:Program} {w:World} {A:Around} {E:Value->Shared->Prop} {s:Shared}
end
section
variable {X:Cx}
end
section
variable {κ:Type} [DecidableEq κ]
def ia (kvs:List (κ × V)) (k:κ):Option V:=(kvs.find? fun kv=>decide (kv.1=k)).map (·.2)
def fT (kvs:List (κ × V)) (k:κ) (v:V):List (κ × V):=
 if (kvs.any fun kv=>decide (kv.1=k))=true then kvs.map (fun kv=>if kv.1=k then (kv.1,v) else kv) else kvs ++ [(k,v)]
theorem jC {p:κ × V} {r:List (κ × V)} {k:κ} (e:p.1=k):ia (p::r) k=some p.2:=by simp [ia,List.find?_cons,e]
theorem jD {p:κ × V} {r:List (κ × V)} {k:κ} (e:¬ p.1=k):ia (p::r) k=ia r k:=by simp [ia,List.find?_cons,e]
theorem pk (k:κ):∀ kvs:List (κ × V),(kvs.any fun kv=>decide (kv.1=k))=(ia kvs k).isSome
 | []=>rfl
 | p::r=>by
  rw [List.any_cons]
  by_cases e:p.1=k
  ·simp only [jC e,decide_eq_true e,Bool.true_or,Option.isSome_some]
  ·rw [jD e,decide_eq_false e,Bool.false_or];exact pk k r
theorem ly (kvs:List (κ × V)) (k:κ) (v:V):(fT kvs k v).length <= kvs.length + 1:=by
 unfold fT
 split
 ·rw [List.length_map];omega
 ·rw [List.length_append,List.length_cons,List.length_nil];omega
theorem RelO.isSome_eq {o:Option V} {u:Option Value} (r:RelO o u):o.isSome=u.isSome:=by
 cases o with
 | none=>cases u with
  | none=>rfl
  | some _=>exact (show False from r).elim
 | some _=>cases u with
  | none=>exact (show False from r).elim
  | some _=>rfl
theorem KV.val {kvs:List (κ × V)} {vs:List (κ × Value)} (r:KV kvs vs) (k:κ):RelO (ia kvs k) (valueAt vs k):=by
 unfold KV at r
 induction r with
 | nil=>exact True.intro
 | @cons p q ps qs h t ih =>
  obtain ⟨h1,h2⟩:=h
  by_cases e:p.1=k
  ·have e':q.1=k:=h1.symm.trans e
   have b:valueAt (q::qs) k=some q.2:=by simp [valueAt,List.find?_cons,e']
   rw [jC e,b];exact h2
  ·have e':¬ q.1=k:=fun z=>e (h1.trans z)
   have b:valueAt (q::qs) k=valueAt qs k:=by simp [valueAt,List.find?_cons,e']
   rw [jD e,b];exact ih
theorem KV.any {kvs:List (κ × V)} {vs:List (κ × Value)} (r:KV kvs vs) (k:κ):(kvs.any fun kv=>decide (kv.1=k))=vs.any fun kv=>decide (kv.1=k):=by
 unfold KV at r
 induction r with
 | nil=>rfl
 | cons h t ih=>rw [List.any_cons,List.any_cons,ih,h.1]
theorem KV.repl {kvs:List (κ × V)} {vs:List (κ × Value)} (r:KV kvs vs) (k:κ) {y:V} {u:Value} (ry:RelV y u) :
    KV (kvs.map fun kv=>if kv.1=k then (kv.1,y) else kv) (vs.map fun kv=>if kv.1=k then (kv.1,u) else kv):=by
 unfold KV at r ⊢
 induction r with
 | nil=>exact .nil
 | @cons p q ps qs h t ih =>
  rw [List.map_cons,List.map_cons]
  refine .cons ?_ ih
  obtain ⟨h1,h2⟩:=h
  by_cases e:p.1=k
  ·rw [if_pos e,if_pos (h1.symm.trans e)];exact ⟨h1,ry⟩
  ·rw [if_neg e,if_neg (fun z=>e (h1.trans z))];exact ⟨h1,h2⟩
theorem KV.put {kvs:List (κ × V)} {vs:List (κ × Value)} (r:KV kvs vs) (k:κ) {y:V} {u:Value} (ry:RelV y u):KV (fT kvs k y) (stored vs k u):=by
 unfold fT stored
 rw [r.any k]
 by_cases e:(vs.any fun kv=>decide (kv.1=k))=true
 ·rw [if_pos e,if_pos e];exact r.repl k ry
 ·rw [if_neg e,if_neg e];exact Paired.snoc r ⟨rfl,ry⟩
theorem KV.length {kvs:List (κ × V)} {vs:List (κ × Value)} (r:KV kvs vs):kvs.length=vs.length:=Paired.length r
end
theorem rS {P:Program} {w:World} {k:Key} {u:Value} (r:RelV (kV k) u):(dv P w).is k u=true:=by
 cases k with
 | inl i=>obtain ⟨t,e⟩:=(show ∃ t,u=Value.int i t from r);subst e;exact qA P w i t
 | inr x=>obtain ⟨t,e⟩:=(show ∃ t,u=Value.str x t from r);subst e;exact qB P w x t
theorem og {P:Program} {w:World}:∀ {ks:List Key} {us:List Value},Vals (ks.map kV) us->ItemsAre (dv P w) ks us
 | [],_,r=>by rw [List.map_nil] at r;cases r;exact .nil
 | k::ks,_,r=>by
  rw [List.map_cons] at r
  cases r with
  | cons h t=>exact .cons (rS h) (og t)
abbrev KT (H:Hp):List (List Key × V)->List (List Key × Addr × Value)->Prop:=Paired fun p q=>p.1=q.1/\H q.2.1=some (.tup (p.1.map kV))/\RelV p.2 q.2.2
theorem KT.val {H:Hp} {kvs:List (List Key × V)} {xs:List (List Key × Addr × Value)} (r:KT H kvs xs) (k:List Key):RelO (ia kvs k) ((atKey xs k).map (·.2)):=by
 induction r with
 | nil=>exact True.intro
 | @cons p q ps qs h t ih =>
  obtain ⟨h1,_,h2⟩:=h
  by_cases e:p.1=k
  ·have e':q.1=k:=h1.symm.trans e
   have b:atKey (q::qs) k=some q.2:=by simp [atKey,List.find?_cons,e']
   rw [jC e,b];exact h2
  ·have e':¬ q.1=k:=fun z=>e (h1.trans z)
   have b:atKey (q::qs) k=atKey qs k:=by simp [atKey,List.find?_cons,e']
   rw [jD e,b];exact ih
theorem KT.repl {H:Hp} {kvs:List (List Key × V)} {xs:List (List Key × Addr × Value)} (r:KT H kvs xs) (k:List Key) {y:V} {u:Value} (ry:RelV y u) :
    KT H (kvs.map fun kv=>if kv.1=k then (kv.1,y) else kv) (xs.map (putAt k u)):=by
 induction r with
 | nil=>exact .nil
 | @cons p q ps qs h t ih =>
  rw [List.map_cons,List.map_cons]
  refine .cons ?_ ih
  obtain ⟨h1,h2,h3⟩:=h
  unfold putAt
  by_cases e:p.1=k
  ·rw [if_pos e,if_pos (h1.symm.trans e)];exact ⟨h1,h2,ry⟩
  ·rw [if_neg e,if_neg (fun z=>e (h1.trans z))];exact ⟨h1,h2,h3⟩
theorem KT.put {H:Hp} {kvs:List (List Key × V)} {xs:List (List Key × Addr × Value)} (r:KT H kvs xs) (k:List Key) {b:Addr} {y:V} {u:Value} (hb:H b=some (.tup (k.map kV))) (ry:RelV y u) :
    KT H (fT kvs k y) (storedH xs k b u):=by
 have e:(kvs.any fun kv=>decide (kv.1=k))=(atKey xs k).isSome:=by
  rw [pk,(r.val k).isSome_eq,Option.isSome_map]
 unfold fT storedH
 rw [e]
 by_cases q:(atKey xs k).isSome=true
 ·rw [if_pos q,if_pos q];exact r.repl k ry
 ·rw [if_neg q,if_neg q];exact Paired.snoc r ⟨rfl,hb,ry⟩
theorem KT.keeps {H H':Hp} {kvs:List (List Key × V)} {xs:List (List Key × Addr × Value)} (r:KT H kvs xs) (ht:∀ b ys,H b=some (.tup ys)->H' b=some (.tup ys)):KT H' kvs xs:=
 Paired.mapP r fun _ _ z=>⟨z.1,ht _ _ z.2.1,z.2.2⟩
section
variable {P:Program} {w:World} {H:Hp} {h:Heap} {a:Addr}
theorem wr {u:HO} (ok:HOk P w H h) (e:Rd H a u):ObjOk P w H h a u:=e.ok ok
theorem wu {kvs:List (Key × V)} (ok:HOk P w H h) (e:Rd H a (.dK kvs)):kvs.length <= sizeLine/\(a == sysModules)=false/\∃ vs,KV kvs vs/\h.DictOf (dv P w) a vs:=
 show ObjOk P w H h a (.dK kvs) from wr ok e
theorem z9 {kvs:List (Key × V)} (ok:HOk P w H h) (e:H a=some (.dK kvs)):kvs.length <= sizeLine/\(a == sysModules)=false/\∃ vs,KV kvs vs/\h.DictOf (dv P w) a vs:=wu ok (.inl e)
theorem pq {ks:List Key} (ok:HOk P w H h) (e:H a=some (.tup (ks.map kV))):(tupleKind (dv P w)).is h ks a:=by
 obtain ⟨_,its,r,o,h1,h2,n,h3⟩:=(show ObjOk P w H h a (.tup (ks.map kV)) from ok a _ e)
 exact ⟨o,its.toArray,n,h1,h2,h3,by simpa using og r⟩
theorem wv {kvs:List (List Key × V)} (ok:HOk P w H h) (e:Rd H a (.dT kvs)):kvs.length <= sizeLine/\(a == sysModules)=false ∧
    ∃ xs,KT H kvs xs/\h.DictOfH (tupleKind (dv P w)) a xs:=by
 obtain ⟨z,y,xs,r,o,es,ep,h1,h2,h3,h4,h5⟩:=(show ObjOk P w H h a (.dT kvs) from wr ok e)
 refine ⟨z,y,xs,r,o,es,ep,h1,h2,h3,h4,fun x hx=>?_,h5⟩
 have all:∀ {l:List (List Key × V)} {m:List (List Key × Addr × Value)},KT H l m->∀ x ∈ m,(tupleKind (dv P w)).is h x.1 x.2.1:=by
  intro l m q
  induction q with
  | nil=>intro x hx;exact nomatch hx
  | @cons p q ps qs hq t ih =>
   intro x hx
   rcases List.mem_cons.mp hx with e | hx
   ·subst e
    exact pq ok (by rw [<- hq.1];exact hq.2.1)
   ·exact ih x hx
 exact all r x hx
theorem Aa {kvs:List (List Key × V)} (ok:HOk P w H h) (e:H a=some (.dT kvs)):kvs.length <= sizeLine/\(a == sysModules)=false ∧
    ∃ xs,KT H kvs xs/\h.DictOfH (tupleKind (dv P w)) a xs:=wv ok (.inl e)
end
def DGet (H:Hp) (a:Addr) (y:V) (r:Option V):Prop:=
 (∃ kvs k,Rd H a (.dK kvs)/\y=kV k/\r=ia kvs k) \/ ∃ kvs k b,Rd H a (.dT kvs)/\y=.ref b/\H b=some (.tup (k.map kV))/\r=ia kvs k
def DPut (H:Hp) (a:Addr) (y v:V) (H':Hp):Prop:=
 (∃ kvs k,H a=some (.dK kvs)/\y=kV k/\kvs.length < sizeLine/\H'=upd H a (.dK (fT kvs k v))) ∨
 ∃ kvs k b,H a=some (.dT kvs)/\y=.ref b/\H b=some (.tup (k.map kV))/\kvs.length < sizeLine/\H'=upd H a (.dT (fT kvs k v))
theorem DGet.t {H:Hp} {a b:Addr} {kvs:List (List Key × V)} {k:List Key} (e:H a=some (.dT kvs)) (eb:H b=some (.tup (k.map kV))):DGet H a (.ref b) (ia kvs k):=.inr ⟨kvs,k,b,.inl e,rfl,eb,rfl⟩
theorem DPut.t {H:Hp} {a b:Addr} {kvs:List (List Key × V)} {k:List Key} {v:V} (e:H a=some (.dT kvs)) (eb:H b=some (.tup (k.map kV))) (hl:kvs.length < sizeLine) :
    DPut H a (.ref b) v (upd H a (.dT (fT kvs k v))):=.inr ⟨kvs,k,b,e,rfl,eb,hl,rfl⟩
section
variable {X:Cx} {pins:List (Addr × Obj)} {σ:St} {H:Hp} {s:Shared} {a:Addr} {y v:V} {u r:Value} {o:Option V} {A:Around} {E:Value->Shared->Prop}
theorem Inv.big (I:Inv X pins σ H s):sysModules < s.heap.objs.size:=by
 have h:mainGlobals < s.heap.objs.size:=(I.mod.glob.keeps I.bk).lt
 exact Nat.lt_trans (by decide) h
theorem CJ {Q:Value->Shared->Prop} (hu:A.units + 1 < cLine) (I:Inv X pins σ H s) (g:DGet H a y o) (ry:RelV y u) (h:∀ s',Inv X pins σ H s'->Q (.bool o.isSome) s') :
    wpAny (model X.prog X.w) A (compareOp .In u (.ref a)) Q E s:=by
 rcases g with ⟨kvs,k,e,ey,l⟩ | ⟨kvs,k,b,e,ey,eb,l⟩
 ·subst ey
  obtain ⟨z,hd,vs,rel,dd⟩:=wu I.hok e
  refine wpAny_in_of (rS ry) hd dd.mapOf ?_
  rw [<- (rel.val k).isSome_eq,<- l]
  exact h _ (I.tok _)
 ·subst ey
  cases (show u=Value.ref b from ry)
  obtain ⟨z,hd,xs,rel,dd⟩:=wv I.hok e
  refine wpAny_in_heap (tupleKind_room_in1 hu) (pq I.hok eb) hd dd ?_
  have q:=(rel.val k).isSome_eq
  rw [Option.isSome_map] at q
  rw [<- q,<- l]
  exact h _ (I.tok _)
theorem qV {h':Heap} {t':Nat} {ob:HO} (I:Inv X pins σ H s) (mu:Mut (H a)) (hs:Heap.SameBut a s.heap h') (he:∃ q,h'.get? a=some q) (new:ObjOk X.prog X.w (upd H a ob) h' a ob) :
    Inv X pins σ (upd H a ob) { s with heap:=h',toks:=t' }:=
 I.write (x:=a) (e:=a) mu (.inl rfl) (fun b q hb z=>(hs.2 b hb).trans z) he new
theorem yI {P:Program} {w:World} {H':Hp} {h':Heap} {kvs:List (Key × V)} {vs:List (Key × Value)} (z:kvs.length <= sizeLine) (hd:(a == sysModules)=false) (rel:KV kvs vs) (dd:h'.DictOf (dv P w) a vs) :
    ObjOk P w H' h' a (.dK kvs):=⟨z,hd,vs,rel,dd⟩
theorem tD {H':Hp} {Q:Unit->Shared->Prop} (hu:A.units + 1 < cLine) (I:Inv X pins σ H s) (g:DPut H a y v H') (ry:RelV y u) (rv:RelV v r) (h:∀ s',Inv X pins σ H' s'->Q () s') :
    wpAny (model X.prog X.w) A (setItem (.ref a) u r) Q E s:=by
 rcases g with ⟨kvs,k,e,ey,l,eH⟩ | ⟨kvs,k,b,e,ey,eb,l,eH⟩
 ·subst ey eH
  obtain ⟨z,hd,vs,rel,dd⟩:=z9 I.hok e
  have hz:vs.length <= sizeLine:=by rw [<- rel.length];exact z
  have hl:(fT kvs k v).length <= sizeLine:=by have:=ly kvs k v;omega
  refine wpAny_setItem_pairs (hsz:=hz) (rS ry) dd fun h' dd' hs=>h _ ?_
  have he:∃ q,h'.get? a=some q:=let ⟨q,_,_,hq,_⟩:=dd';⟨q,hq⟩
  exact qV I (by rw [e];exact True.intro) hs he (yI hl hd (rel.put k rv) dd')
 ·subst ey eH
  cases (show u=Value.ref b from ry)
  obtain ⟨z,hd,xs,rel,dd⟩:=Aa I.hok e
  have hz:xs.length <= sizeLine:=by rw [<- Paired.length rel];exact z
  have hl:(fT kvs k v).length <= sizeLine:=by have:=ly kvs k v;omega
  refine wpAny_setItem_heap (hsz:=hz) (tupleKind_room_in1 hu) (pq I.hok eb) dd fun h' dd' hs=>h _ ?_
  obtain ⟨q,es,ep,hq,h2,h3,h4,_,h5⟩:=dd'
  refine qV I (by rw [e];exact True.intro) hs ⟨q,hq⟩ ⟨hl,hd,_,(rel.put k eb rv).keeps fun c ys ec=>?_,q,es,ep,hq,h2,h3,h4,h5⟩
  rw [aZ (zI ec e (fun z=>nomatch z))]
  exact ec
end
section
variable {X:Cx} {pins:List (Addr × Obj)} {σ:St} {H:Hp} {s:Shared} {a:Addr} {kvs:List (Key × V)} {k:Key} {u:Value} {A:Around} {E:Value->Shared->Prop}
end
section
variable {X:Cx} {o i e value:Expr} {pos pos' tpos:Pos} {td ty tv:TE}
end
theorem vm {P:Program} {w:World} {H:Hp} (h:Heap) (hb:sysModules < h.objs.size):ObjOk P w H (h.push { cls:=.type "dict", data:=.dict #[] }) h.objs.size (.dT []):=
 ⟨Nat.zero_le _,beq_eq_false_iff_ne.mpr (Ne.symm (Nat.ne_of_lt hb)),[],.nil,_,#[],0,Heap.get?_push_size _ rfl,⟨rfl,rfl,rfl⟩,rfl,rfl,List.nodup_nil⟩
def yJ:TE:=fun _ H Q=>∀ p,H p=none->Q (.ref p) (upd H p (.dT []))
section
variable {X:Cx} {pos:Pos}
theorem vn:PE X (.Dict [] [] pos) yJ:=fun pins s σ H Q I h =>
 wpAny_Dict_empty ⟨.ref s.heap.objs.size,_,I.laid (a:=s.heap.objs.size) (o:=.dT []) (t':=s.toks) (fun _ _ q=>Heap.get?_push_of_some _ q) (Nat.le_refl _) (vm s.heap I.big),rfl,h _ (I.hok.fresh (Nat.le_refl _))⟩
end
structure M1 (X:Cx) (o:Expr) (m:Str) (apos:Pos) (e:Expr) (cpos:Pos):Prop where
 base:attributeBase o m X.env (eval o X.env)=eval o X.env
 few:((backTo cpos (starEach [e] X.env)).all (fun x=>!x.1) && (backToKw cpos (keywordEach [] X.env)).all (fun x=>x.1.isSome)
  && decide (([e]:List Expr).length + ([]:List Keyword).length + (if ([]:List Keyword).isEmpty then 0 else 1) < 30))=true
 line:(apos.endLine == cpos.line)=true
 trees:backTo cpos (starEach [e] X.env)=[(false,eval e X.env)]
structure M2 (X:Cx) (o:Expr) (m:Str) (apos:Pos) (e f:Expr) (cpos:Pos):Prop where
 base:attributeBase o m X.env (eval o X.env)=eval o X.env
 few:((backTo cpos (starEach [e,f] X.env)).all (fun x=>!x.1) && (backToKw cpos (keywordEach [] X.env)).all (fun x=>x.1.isSome)
  && decide (([e,f]:List Expr).length + ([]:List Keyword).length + (if ([]:List Keyword).isEmpty then 0 else 1) < 30))=true
 line:(apos.endLine == cpos.line)=true
 trees:backTo cpos (starEach [e,f] X.env)=[(false,eval e X.env),(false,eval f X.env)]
section
variable {X:Cx} {pins:List (Addr × Obj)} {σ:St} {H:Hp} {s:Shared} {a:Addr} {y d:V} {u r:Value} {o:Option V} {A:Around} {E:Value->Shared->Prop}
end
section
variable {X:Cx} {o e f:Expr} {apos cpos:Pos} {td ty tx:TE}
end
section
variable {X:Cx} {pins:List (Addr × Obj)} {σ:St} {H:Hp} {s:Shared} {a:Addr} {kvs:List (Key × V)} {A:Around} {E:Value->Shared->Prop}
end
section
variable {X:Cx} {pins:List (Addr × Obj)} {σ:St} {H:Hp} {s:Shared} {a:Addr} {y:V} {u:Value} {A:Around} {E:Value->Shared->Prop}
end
end L2
namespace Att
open PySem PySem.W PySem.Calls PyProof.Rows
theorem mh {P:Params} {h:Heap}:∀ (ns:List Int) (vs:List Value),WellAll P h vs (ns.map WData.int)->IntsAre vs ns:=by
 intro ns
 induction ns with
 | nil =>
  intro vs w
  rw [List.map_nil] at w
  cases w
  exact .nil
 | cons n ns ih =>
  intro vs w
  rw [List.map_cons] at w
  cases w with
  | cons a b =>
   cases a
   exact .cons _ _ (ih _ b)
theorem tE {l:OpenLaw} {n:Nat} (hn:l.most=some n) {P:Params} {h:Heap} {args:List WData} {vals:List Value}
    (hpre:l.row.toRowW.claim.pre args=true) (hwl:WellAll P h vals args) :
    ∃ a vs ns,vals=[Value.ref a]/\args=[WData.list (ns.map WData.int)]/\h.get? a=some { cls:=.type "list", data:=.seq vs.toArray }/\IntsAre vs ns/\ns.length <= n:=by
 have hsh:WShape.hasAll [] args [.list .int]=true:=(pre_splitW hpre).1
 have hc:l.pre.holds [] { args:=args }=true:=(pre_splitW hpre).2
 obtain ⟨d,r,rfl,h1,h2⟩:=hasAllW_cons hsh
 obtain rfl:=hasAllW_nil h2
 obtain ⟨xs,rfl,h3⟩:=hasW_list h1
 obtain ⟨ns,rfl⟩:=items_int h3
 have hlen:ns.length <= n:=by
  unfold OpenLaw.pre at hc
  have h4:(WTm.not (.lt (.lit (.int (n:Int))) (.len (.arg 0)))).holds [] { args:=[.list (ns.map .int)] }=true:=by
   have h4:=(holds_andW hc).1
   rw [hn] at h4
   exact h4
  have h5:=condW_of h4 (w_not (w_lt w_lit (w_len_list (w_arg rfl))))
  rw [List.length_map] at h5
  refine Nat.le_of_not_lt fun q=>?_
  have q':(n:Int) < ((ns.length:Nat):Int):=by omega
  first
   | (rw [decide_eq_true q'] at h5;exact absurd h5 (by decide))
   | (simp at h5;omega)
 cases hwl with
 | cons w1 w2 =>
  cases w2
  cases w1 with
  | list ho hall=>exact ⟨_,_,ns,rfl,rfl,ho,mh ns _ hall,hlen⟩
theorem tF (l:OpenLaw) (args:List WData):l.row.toRowW.claim.post args (.bool true) args=true:=
 postW_of (r:=l.row.toRowW) (X:=(true == true))
  (show WShape.has [] (.bool true) .bool=true by first | rfl | decide | simp [WShape.has,WShape.arms,WShape.armsAll])
  (show (WTm.eq .res (.lit (.bool true))).value [] { args:=args,res:=some (.bool true),after:=args }=some (.bool (true == true)) from w_eq_bool (w_res rfl) w_lit) rfl
theorem attach_call {l:OpenLaw} {n:Nat} {q:Program} {loose:List Str} {XP:(Str->Option Value)->Heap->Prop} {YP:World->Heap->Prop} {d:DefRec}
    (hn:l.most=some n) (hdf:d.params.defaults=[])
    (call:∀ (w:World) (s₀ s₁:Shared) (mg mb:Str->Option Value) (fa:Addr) (o:Obj) (pm cd doc:Value) (a:Addr) (vs:List Value) (ns:List Int),
     Ground q loose [] XP w s₀ mg mb s₁.heap->YP w s₁.heap →
     s₁.heap.get? fa=some o->o.data=.func (docDef d.name d.params d.body d.scope pm cd doc)->s₁.heap.CodeRec cd d.name->mg d.name=some (.ref fa) →
     s₁.heap.get? a=some { cls:=.type "list", data:=.seq vs.toArray }->IntsAre vs ns->ns.length <= n->s₁.gens=#[] →
     codeAny (model l.prog w) callerA (.call (.ref fa) ⟨[.ref a],[]⟩) (fun r s'=>r=.ok (.ret (.bool true))/\OldK s₁.heap s'.heap/\s'.os=s₁.os/\AllBare s'.gens) s₁) :
    WalkO q loose XP YP l.row.toRowW d [] (fun f vs=>PySem.call f vs):=by
 intro w s₀ s₁ mg mb G Y fa o pm cd doc dV kV ho hd hcd hD hmg hg args vals as hpre hlay hrd hwl hlo
 obtain rfl:dV=.none:=Dflts.none hD hdf
 obtain rfl:kV=.none:=Dflts.noKw hD
 obtain ⟨a,vs,ns,rfl,rfl,hobj,hints,hlen⟩:=tE hn hpre hwl
 refine enter_call (codeAny_mono (call w s₀ s₁ mg mb fa o pm cd doc a vs ns G Y ho (fd_plain hd) hcd hmg hobj hints hlen hg) fun r s' hq=>?_)
 obtain ⟨rfl,h2,h3,h4⟩:=hq
 exact ⟨.inl ⟨.bool true,.bool true,[],rfl,fun _=>rfl,.bool true,tF l _,fun _=>⟨List.Pairwise.nil,fun _ hm=>(nomatch hm)⟩⟩,h2,h3,h4⟩
section
variable {prog:Program} {w:World} {A:Around} {E:Value->Shared->Prop} {s:Shared} {K:Frag}
end
end Att
namespace L2
open PySem PySem.Spec PyProof.Rows
theorem ke:∀ {vs:List Value} {ns:List Int},IntsAre vs ns->Vals (ns.map V.int) vs
 | _,_,.nil=>.nil
 | _,_,.cons n t h=>.cons ⟨t,rfl⟩ (ke h)
def yK (H:Hp):Prop:=∀ b,H b=none \/ ∃ o xs,H b=some (.frz o (.lst xs))
theorem vo {P:Program} {w:World} {K:PySem.W.Frag} {mg mb:Str->Option Value} {CX:CXT} {k:Nat} {fa a:Addr} {fd:FuncData} {x:Str} {sp:Sp} {s₁:Shared} {vs:List Value} {ns:List Int}
    (KX:K.In s₁.heap) (hns:s₁.heap.Ns mainGlobals mg) (hb:s₁.heap.Ns builtinsNs mb) (hbb:∀ x:Str,x ≠ "__name__" -> mb x=bootBuiltins x) (hlim:s₁.heap.NoLimit) (hg:s₁.gens=#[])
    (ha:s₁.heap.get? a=some { cls:=.type "list", data:=.seq vs.toArray }) (hi:IntsAre vs ns) (hl:ns.length <= sizeLine) (hr:Room k callerA)
    (F:∀ base:Heap,K.In base->base.Ns mainGlobals mg->FnOk P w K mg base CX k fa fd [x] sp) (hbind:∀ (s:Shared) (u:Value),BindsTo s fd ⟨[u],[]⟩ [(x,u)])
    (hsp:∀ H:Hp,yK H->SqL K H a (ns.map V.int)->sp [.ref a] H (fun v _=>v=.bl true) fun _ _ _=>False)
    (hCX:∀ H e s',CX [] H s₁ (fun _ _ _=>False) e s'->False) :
    codeAny (model P w) callerA (.call (.ref fa) ⟨[.ref a],[]⟩) (fun r s'=>r=.ok (.ret (.bool true))/\OldK s₁.heap s'.heap/\s'.os=s₁.os/\AllBare s'.gens) s₁:=by
 have rv:=ke hi
 have lenV:=hi.length
 -- from an abstract heap in which nothing but the script may be tracked
 have core:∀ H:Hp,yK H->SqL K H a (ns.map V.int)->HOk P w H s₁.heap->(∀ b,H b ≠ none->b=a)->(H a ≠ none->K.lookup a=none) →
     codeAny (model P w) callerA (.call (.ref fa) ⟨[.ref a],[]⟩) (fun r s'=>r=.ok (.ret (.bool true))/\OldK s₁.heap s'.heap/\s'.os=s₁.os/\AllBare s'.gens) s₁:=by
  intro H hO hS hok hA hK
  have base_of:∀ {b:Addr} {o:Obj},s₁.heap.get? b=some o->H b=none->(jy s₁.heap H).get? b=some o:=fun e n=>uV e n
  have noA:∀ {b:Addr} {o:Obj} {es:Array DictEntry} {ep:Nat},s₁.heap.get? b=some o->o.data=.dict es ep->H b=none:=fun {b o es ep} e d=>by
   cases q:H b with
   | none=>rfl
   | some u =>
    have e':b=a:=hA b (by rw [q];simp)
    subst e'
    rw [ha] at e;cases e
    have d':Data.seq vs.toArray _=Data.dict es ep:=d
    cases d'
  have nsK:∀ {b:Addr} {m:Str->Option Value},s₁.heap.Ns b m->(jy s₁.heap H).Ns b m:=fun {b m} ⟨o,es,ep,e,d,r⟩=>⟨o,es,ep,base_of e (noA e d),d,r⟩
  have hKb:K.In (jy s₁.heap H):=fun b o e=>base_of (KX b o e) (by
   cases q:H b with
   | none=>rfl
   | some u =>
    have e':b=a:=hA b (by rw [q];simp)
    subst e'
    rw [hK (by rw [q];simp)] at e;cases e)
  have hM:Mod K mg (jy s₁.heap H):=⟨hKb,nsK hns,⟨mb,nsK hb,hbb⟩,let ⟨mc,h1,h2⟩:=hlim;⟨mc,nsK h1,h2⟩⟩
  have e0:Env0 P w K mg (jy s₁.heap H) callerA [] s₁ H:=⟨rfl,hM,fun b o e=>wG e,Nat.le_of_eq (sQ _ _),trivial,fun b hb=>absurd (show b ∈ ([]:List Addr) from hb) (by simp),hok,.of_eq hg⟩
  refine codeAny_mono ((F _ hKb (nsK hns)).run callerA [] s₁ H ⟨[.ref a],[]⟩ [.ref a] [.ref a] _ _ hr e0 (hbind s₁ (.ref a)) (.cons rfl .nil) (hsp H hO hS)) fun r s' h=>?_
  cases r with
  | error e=>exact (hCX H e s' h).elim
  | ok fl =>
   cases fl with
   | next=>exact False.elim h
   | brk=>exact False.elim h
   | cont=>exact False.elim h
   | ret u =>
    obtain ⟨v,H',os,bare,un,hok',r',q⟩:=h
    have q':v=.bl true:=q
    subst q'
    obtain rfl:u=Value.bool true:=r'
    refine ⟨rfl,OldK.of_keep fun b o e=>?_,os,bare⟩
    cases q:H b with
    | none=>exact un.keep b o e q (by intro z;exact absurd (show b ∈ ([]:List Addr) from z) (by simp)) (by simp)
    | some u =>
     rcases hO b with z | ⟨ob,xs,z⟩
     ·rw [q] at z;cases z
     ·have z2:=un.frzs b ob _ z
      obtain ⟨e1,_⟩:=hok b _ z
      obtain ⟨e2,_⟩:=hok' b _ z2
      rw [e] at e1;cases e1
      exact e2
 cases hk:K.lookup a with
 | some o =>
  -- the script is one of the module's own objects
  have e:=KX a o hk
  rw [ha] at e
  cases e
  refine core (fun _=>none) (fun _=>.inl rfl) (.inr ⟨_,vs.toArray,_,hk,rfl,rfl,rfl,by rw [List.size_toArray,lenV];exact hl,by simpa using rv⟩) (fun b u z=>by have z':(none:Option HO)=some u:=z;cases z') (fun b z=>absurd rfl z) fun z=>absurd rfl z
 | none =>
  refine core (fun b=>if b=a then some (.frz { cls:=.type "list", data:=.seq vs.toArray } (.lst (ns.map V.int))) else none) (fun b=>?_) (.inl (.inr ⟨{ cls:=.type "list", data:=.seq vs.toArray },if_pos rfl⟩)) (fun b u z=>?_) (fun b z=>?_) fun _=>hk
  ·by_cases hb:b=a
   ·exact .inr ⟨_,_,if_pos hb⟩
   ·exact .inl (if_neg hb)
  ·by_cases hb:b=a
   ·have z':=(if_pos hb).symm.trans z
    cases z'
    subst hb
    exact ⟨ha,by rw [List.length_map];exact hl,vs,_,rv,ha⟩
   ·have z':=(if_neg hb).symm.trans z
    cases z'
  ·by_cases hb:b=a
   ·exact hb
   ·exact absurd (if_neg hb) z
def eM (s:Stmt):Arguments:=match s with
 | .FunctionDef _ a _ _ _ _ _ _ _ _=>a
 | _=>{ posonlyargs:=[],args:=[],vararg:=none,kwonlyargs:=[],kw_defaults:=[],kwarg:=none,defaults:=[] }
def cE (s:Stmt):List Stmt:=match s with
 | .FunctionDef _ _ b _ _ _ _ _ _ _=>b
 | _=>[]
def aA (s:Stmt):Scope:=match s with
 | .FunctionDef _ _ _ _ _ _ sc _ _ _=>sc
 | _=>{ kind:=.function,names:=[],isGenerator:=false,isCoroutine:=false }
abbrev E0:XK:=fun _ _ _=>False
structure Fun (K:PySem.W.Frag) (x qual:Str) (st:Stmt) (f:Addr) (fd:FuncData):Prop where
 ex:∃ (oc:Value) (od:Option Addr) (kV doc pm:Value) (an:Option Addr) (cdv ct:Value) (osl:Array (Option Value)),
  fd=PySem.W.fnOf x qual (eM st) (cE st) (aA st) .none kV doc pm an cdv ct/\K.lookup f=some ⟨oc,od,.func fd,osl⟩/\PySem.W.codeIn K cdv qual=true
 kp:PySem.W.keepIn K (.ref f)=true
section
variable {P:Program} {w:World} {K:PySem.W.Frag} {mg:Str->Option Value} {base:Heap}
theorem Fun.binds {x qual:Str} {st:Stmt} {f:Addr} {fd:FuncData} {ps:List Str} (F:Fun K x qual st f fd)
    (h:∀ (kV doc pm:Value) (an:Option Addr) (cdv ct:Value) (us:List Value),us.length=ps.length->bindArgs (PySem.W.fnOf x qual (eM st) (cE st) (aA st) .none kV doc pm an cdv ct) ⟨us,[]⟩=pure (ps.zip us)):Binds K fd ps []:=by
 obtain ⟨oc,od,kV,doc,pm,an,cdv,ct,osl,rfl,lk,hcd⟩:=F.ex
 exact .all (h kV doc pm an cdv ct)
theorem mi {x qual:Str} {st:Stmt} {f:Addr} {oc:Value} {od an:Option Addr} {osl:Array (Option Value)} {kV doc pm cdv ct:Value} (l:K.lookup f=some ⟨oc,od,.func (PySem.W.fnOf x qual (eM st) (cE st) (aA st) .none kV doc pm an cdv ct),osl⟩)
    (c:PySem.W.codeIn K cdv qual=true) (k:PySem.W.keepIn K (.ref f)=true):Fun K x qual st f (PySem.W.fnOf x qual (eM st) (cE st) (aA st) .none kV doc pm an cdv ct):=⟨⟨oc,od,kV,doc,pm,an,cdv,ct,osl,rfl,l,c⟩,k⟩
end
section
variable {X:Cx}
end
def Same (H H':Hp):Prop:=∀ b o,H b=some o->H' b=some o
theorem Same.refl (H:Hp):Same H H:=fun _ _ h=>h
theorem Same.trans {H H1 H2:Hp} (a:Same H H1) (b:Same H1 H2):Same H H2:=fun c o h=>b c o (a c o h)
section
variable {X:Cx}
end
section
variable {κ:Type} [DecidableEq κ]
end
end L2
set_option maxHeartbeats 4000000
theorem List.reverseRecOn' {α:Type} {motive:List α->Prop} (l:List α) (nil:motive []) (snoc:∀ xs x,motive xs->motive (xs ++ [x])):motive l:=by
 have:∀ l:List α,motive l.reverse:=by
  intro l
  induction l with
  | nil=>exact nil
  | cons x xs ih=>rw [List.reverse_cons];exact snoc _ _ ih
 simpa using this l.reverse
namespace Mi
open PySem L2
inductive Tg where
 | f | o | b
 deriving DecidableEq
inductive D where
 | non | bl (b:Bool) | int (i:Int) | str (x:Str)
 | lst (t:Tg) (xs:List D) | tup (xs:List D)
 | dic (t:Tg) (kvs:List (List Key × D))
 | ins (t:Tg) (C:Addr) (fs:List (Str × D))
 | exc (C:Value)
 | scr (ns:List Int)
 | slf (a C:Addr) (fs:List (Str × D))
namespace D
noncomputable def tag:D->Tg
 | .lst t _=>t
 | .dic t _=>t
 | .ins t _ _=>t
 | .slf _ _ _=>.o
 | _=>.f
noncomputable def rd:D->D
 | .lst .o xs=>.lst .b xs
 | .dic .o xs=>.dic .b xs
 | .ins .o C fs=>.ins .b C fs
 | .slf _ C fs=>.ins .b C fs
 | d=>d
mutual
noncomputable def fz:D->D
 | .lst _ xs=>.lst .f (fzs xs)
 | .dic _ kvs=>.dic .f (fzk kvs)
 | .tup xs=>.tup (fzs xs)
 | .ins _ C fs=>.ins .f C fs
 | .slf _ C fs=>.ins .f C fs
 | d=>d
noncomputable def fzs:List D->List D
 | []=>[]
 | x::xs=>fz x::fzs xs
noncomputable def fzk:List (List Key × D)->List (List Key × D)
 | []=>[]
 | (k,x)::xs=>(k,fz x)::fzk xs
end
noncomputable def atom:D->Bool
 | .non | .bl _ | .int _ | .str _=>true
 | _=>false
theorem fzs_map:∀ xs:List D,fzs xs=xs.map fz:=by
 intro lc
 cases lc with
 | nil =>
  simp [fzs]
 | cons x xs =>
  simp [fzs,fzs_map xs]
end D
mutual
inductive Rep (H:Hp):V->D->Prop
 | non:Rep H .non .non
 | bl {b}:Rep H (.bl b) (.bl b)
 | int {i}:Rep H (.int i) (.int i)
 | str {x}:Rep H (.str x) (.str x)
 | lst {a xs ds t}:H a=some (.lst xs)->Reps H xs ds->Rep H (.ref a) (.lst t ds)
 | tup {a xs ds}:H a=some (.tup xs)->Reps H xs ds->Rep H (.ref a) (.tup ds)
 | dic {a kvs ks t}:H a=some (.dT kvs)->RepK H kvs ks->Rep H (.ref a) (.dic t ks)
 | ins {a C dx fs ds t}:H a=some (.ins C dx fs)->RepF H fs ds->Rep H (.ref a) (.ins t C ds)
 | scr {a o ns}:H a=some (.frz o (.lst (ns.map V.int)))->Rep H (.ref a) (.scr ns)
 | slf {a C dx fs ds}:H a=some (.ins C dx fs)->RepF H fs ds->Rep H (.ref a) (.slf a C ds)
inductive Reps (H:Hp):List V->List D->Prop
 | nil:Reps H [] []
 | cons {v d vs ds}:Rep H v d->Reps H vs ds->Reps H (v::vs) (d::ds)
inductive RepK (H:Hp):List (List Key × V)->List (List Key × D)->Prop
 | nil:RepK H [] []
 | cons {k v d vs ds}:Rep H v d->RepK H vs ds->RepK H ((k,v)::vs) ((k,d)::ds)
inductive RepF (H:Hp):List (Str × V)->List (Str × D)->Prop
 | nil:RepF H [] []
 | cons {k v d vs ds}:Rep H v d->RepF H vs ds->RepF H ((k,v)::vs) ((k,d)::ds)
end
mutual
theorem Rep.mono {H H':Hp} (s:Same H H'):∀ {v d},Rep H v d->Rep H' v d:=by
 intro _ _ hc
 cases hc with
 | non =>
  exact .non
 | bl =>
  exact .bl
 | int =>
  exact .int
 | str =>
  exact .str
 | lst h r =>
  exact .lst (s _ _ h) (Reps.mono s r)
 | scr h =>
  exact .scr (s _ _ h)
 | slf h r =>
  exact .slf (s _ _ h) (RepF.mono s r)
 | tup h r =>
  exact .tup (s _ _ h) (Reps.mono s r)
 | dic h r =>
  exact .dic (s _ _ h) (RepK.mono s r)
 | ins h r =>
  exact .ins (s _ _ h) (RepF.mono s r)
theorem Reps.mono {H H':Hp} (s:Same H H'):∀ {v d},Reps H v d->Reps H' v d:=by
 intro _ _ hc
 cases hc with
 | nil =>
  exact .nil
 | cons h r =>
  exact .cons (Rep.mono s h) (Reps.mono s r)
theorem RepK.mono {H H':Hp} (s:Same H H'):∀ {v d},RepK H v d->RepK H' v d:=by
 intro _ _ hc
 cases hc with
 | nil =>
  exact .nil
 | cons h r =>
  exact .cons (Rep.mono s h) (RepK.mono s r)
theorem RepF.mono {H H':Hp} (s:Same H H'):∀ {v d},RepF H v d->RepF H' v d:=by
 intro _ _ hc
 cases hc with
 | nil =>
  exact .nil
 | cons h r =>
  exact .cons (Rep.mono s h) (RepF.mono s r)
end
mutual
theorem Rep.fz {H:Hp}:∀ {v d},Rep H v d->Rep H v d.fz:=by
 intro _ _ hc
 cases hc with
 | non =>
  exact .non
 | bl =>
  exact .bl
 | int =>
  exact .int
 | str =>
  exact .str
 | lst h r =>
  exact .lst h (Reps.fz r)
 | tup h r =>
  exact .tup h (Reps.fz r)
 | dic h r =>
  exact .dic h (RepK.fz r)
 | ins h r =>
  exact .ins h r
 | scr h =>
  exact .scr h
 | slf h r =>
  exact .ins h r
theorem Reps.fz {H:Hp}:∀ {v d},Reps H v d->Reps H v (D.fzs d):=by
 intro _ _ hc
 cases hc with
 | nil =>
  exact .nil
 | cons h r =>
  exact .cons (Rep.fz h) (Reps.fz r)
theorem RepK.fz {H:Hp}:∀ {v d},RepK H v d->RepK H v (D.fzk d):=by
 intro _ _ hc
 cases hc with
 | nil =>
  exact .nil
 | cons h r =>
  exact .cons (Rep.fz h) (RepK.fz r)
end
theorem Reps.length {H:Hp}:∀ {vs ds},Reps H vs ds->vs.length=ds.length:=by
 intro _ _ hc
 cases hc with
 | nil =>
  exact rfl
 | cons _ r =>
  simp [Reps.length r]
theorem Reps.get {H:Hp}:∀ {vs ds} {i:Nat} {d},Reps H vs ds->ds[i]?=some d->∃ v,vs[i]?=some v/\Rep H v d:=by
 intro _ _ ic d hc e
 cases hc with
 | nil =>
  simp at e
 | cons h r =>
  cases ic with
  | zero =>
   simp at e;subst e;exact ⟨_,rfl,h⟩
  | succ i =>
   simpa using Reps.get (i:=i) (d:=d) r (by simpa using e)
theorem Reps.append {H:Hp}:∀ {vs ds us es},Reps H vs ds->Reps H us es->Reps H (vs ++ us) (ds ++ es):=by
 intro _ _ _ _ hc q
 cases hc with
 | nil =>
  exact q
 | cons h r =>
  exact .cons h (Reps.append r q)
mutual
inductive RepO (Hf H:Hp):List Addr->V->D->Prop
 | fz {v d}:Rep Hf v d->d.tag=.f->RepO Hf H [] v d
 | lst {a xs fp ds}:H a=some (.lst xs)->RepOs Hf H fp xs ds->RepO Hf H (a::fp) (.ref a) (.lst .o ds)
 | dic {a kvs ks}:H a=some (.dT kvs)->RepK Hf kvs ks->RepO Hf H [a] (.ref a) (.dic .o ks)
 | slf {a C dx fs ks}:H a=some (.ins C dx fs)->H dx=some (.own a)->RepF Hf fs ks->RepO Hf H [a,dx] (.ref a) (.slf a C ks)
inductive RepOs (Hf H:Hp):List Addr->List V->List D->Prop
 | nil:RepOs Hf H [] [] []
 | cons {fp v d fps vs ds}:RepO Hf H fp v d->RepOs Hf H fps vs ds->RepOs Hf H (fp ++ fps) (v::vs) (d::ds)
end
mutual
inductive RepV (Hf H:Hp):V->D->Prop
 | fz {v d}:Rep Hf v d->d.tag=.f->RepV Hf H v d
 | lst {a xs ds t}:t ≠ .f->H a=some (.lst xs)->RepVs Hf H xs ds->RepV Hf H (.ref a) (.lst t ds)
 | dic {a kvs ks t}:t ≠ .f->H a=some (.dT kvs)->RepK Hf kvs ks->RepV Hf H (.ref a) (.dic t ks)
 | ins {a C dx fs ks t}:t ≠ .f->H a=some (.ins C dx fs)->RepF Hf fs ks->RepV Hf H (.ref a) (.ins t C ks)
 | slf {a C dx fs ks}:H a=some (.ins C dx fs)->RepF Hf fs ks->RepV Hf H (.ref a) (.slf a C ks)
inductive RepVs (Hf H:Hp):List V->List D->Prop
 | nil:RepVs Hf H [] []
 | cons {v d vs ds}:RepV Hf H v d->RepVs Hf H vs ds->RepVs Hf H (v::vs) (d::ds)
end
mutual
theorem RepO.v {Hf H:Hp}:∀ {fp v d},RepO Hf H fp v d->RepV Hf H v d:=by
 intro _ _ _ hc
 cases hc with
 | fz h e =>
  exact .fz h e
 | lst h r =>
  exact .lst (by decide) h (RepOs.v r)
 | dic h r =>
  exact .dic (by decide) h r
 | slf h _ r =>
  exact .slf h r
theorem RepOs.v {Hf H:Hp}:∀ {fp v d},RepOs Hf H fp v d->RepVs Hf H v d:=by
 intro _ _ _ hc
 cases hc with
 | nil =>
  exact .nil
 | cons h r =>
  exact .cons (RepO.v h) (RepOs.v r)
end
mutual
theorem RepV.rep {Hf H:Hp} (s:Same Hf H):∀ {v d},RepV Hf H v d->Rep H v d:=by
 intro _ _ hc
 cases hc with
 | fz h _ =>
  exact h.mono s
 | lst _ h r =>
  exact .lst h (RepVs.rep s r)
 | dic _ h r =>
  exact .dic h (r.mono s)
 | ins _ h r =>
  exact .ins h (r.mono s)
 | slf h r =>
  exact .slf h (r.mono s)
theorem RepVs.rep {Hf H:Hp} (s:Same Hf H):∀ {v d},RepVs Hf H v d->Reps H v d:=by
 intro _ _ hc
 cases hc with
 | nil =>
  exact .nil
 | cons h r =>
  exact .cons (RepV.rep s h) (RepVs.rep s r)
end
mutual
theorem RepO.keep {Hf H Hf' H':Hp} (s:Same Hf Hf'):∀ {fp v d},RepO Hf H fp v d->(∀ a o,a ∈ fp->H a=some o->H' a=some o)->RepO Hf' H' fp v d:=by
 intro _ _ _ hc k
 cases hc with
 | fz h e =>
  exact .fz (h.mono s) e
 | lst h r =>
  exact .lst (k _ _ List.mem_cons_self h) (RepOs.keep s r fun a o m=>k a o (List.mem_cons_of_mem _ m))
 | dic h r =>
  exact .dic (k _ _ List.mem_cons_self h) (r.mono s)
 | slf h q r =>
  exact .slf (k _ _ List.mem_cons_self h) (k _ _ (List.mem_cons_of_mem _ List.mem_cons_self) q) (r.mono s)
theorem RepOs.keep {Hf H Hf' H':Hp} (s:Same Hf Hf'):∀ {fp v d},RepOs Hf H fp v d->(∀ a o,a ∈ fp->H a=some o->H' a=some o)->RepOs Hf' H' fp v d:=by
 intro _ _ _ hc k
 cases hc with
 | nil =>
  exact .nil
 | cons h r =>
  exact .cons (RepO.keep s h fun a o m=>k a o (List.mem_append_left _ m)) (RepOs.keep s r fun a o m=>k a o (List.mem_append_right _ m))
end
mutual
theorem RepV.mono {Hf H Hf' H':Hp} (s:Same Hf Hf') (s':Same H H'):∀ {v d},RepV Hf H v d->RepV Hf' H' v d:=by
 intro _ _ hc
 cases hc with
 | fz h e =>
  exact .fz (h.mono s) e
 | lst t h r =>
  exact .lst t (s' _ _ h) (RepVs.mono s s' r)
 | dic t h r =>
  exact .dic t (s' _ _ h) (r.mono s)
 | ins t h r =>
  exact .ins t (s' _ _ h) (r.mono s)
 | slf h r =>
  exact .slf (s' _ _ h) (r.mono s)
theorem RepVs.mono {Hf H Hf' H':Hp} (s:Same Hf Hf') (s':Same H H'):∀ {v d},RepVs Hf H v d->RepVs Hf' H' v d:=by
 intro _ _ hc
 cases hc with
 | nil =>
  exact .nil
 | cons h r =>
  exact .cons (RepV.mono s s' h) (RepVs.mono s s' r)
end
mutual
theorem RepO.there {Hf H:Hp}:∀ {fp v d},RepO Hf H fp v d->∀ a ∈ fp,∃ o,H a=some o:=by
 intro _ _ _ hc a m
 cases hc with
 | fz _ _ =>
  simp at m
 | lst h r =>
  rcases List.mem_cons.mp m with e | m
  ·subst e;exact ⟨_,h⟩
  ·exact RepOs.there r a m
 | dic h _ =>
  simp at m;subst m;exact ⟨_,h⟩
 | slf h q _ =>
  simp at m
  rcases m with m | m
  ·subst m;exact ⟨_,h⟩
  ·subst m;exact ⟨_,q⟩
theorem RepOs.there {Hf H:Hp}:∀ {fp v d},RepOs Hf H fp v d->∀ a ∈ fp,∃ o,H a=some o:=by
 intro _ _ _ hc a m
 cases hc with
 | nil =>
  simp at m
 | cons h r =>
  exact (List.mem_append.mp m).elim (RepO.there h a) (RepOs.there r a)
end
theorem RepVs.get {Hf H:Hp}:∀ {vs ds} {i:Nat} {d},RepVs Hf H vs ds->ds[i]?=some d->∃ v,vs[i]?=some v/\RepV Hf H v d:=by
 intro _ _ ic d hc e
 cases hc with
 | nil =>
  simp at e
 | cons h r =>
  cases ic with
  | zero =>
   simp at e;subst e;exact ⟨_,rfl,h⟩
  | succ i =>
   simpa using RepVs.get (i:=i) (d:=d) r (by simpa using e)
theorem RepOs.length {Hf H:Hp}:∀ {fp vs ds},RepOs Hf H fp vs ds->vs.length=ds.length:=by
 intro _ _ _ hc
 cases hc with
 | nil =>
  exact rfl
 | cons _ r =>
  simp [RepOs.length r]
theorem RepOs.append {Hf H:Hp}:∀ {fp vs ds fq us es},RepOs Hf H fp vs ds->RepOs Hf H fq us es->RepOs Hf H (fp ++ fq) (vs ++ us) (ds ++ es):=by
 intro _ _ _ _ _ _ hc q
 cases hc with
 | nil =>
  exact q
 | cons h r =>
  rw [List.append_assoc];exact .cons h (RepOs.append r q)
noncomputable def mix (Hf H:Hp) (fp:List Addr):Hp:=fun a=>if a ∈ fp then H a else Hf a
theorem mj {Hf H:Hp} {fp:List Addr} {a:Addr} (h:a ∈ fp):mix Hf H fp a=H a:=by unfold mix;rw [if_pos h]
theorem qW {Hf H:Hp} {fp:List Addr} {a:Addr} (h:a ∉ fp):mix Hf H fp a=Hf a:=by unfold mix;rw [if_neg h]
theorem dQ {Hf H:Hp} {fp:List Addr} (s:Same Hf H):Same Hf (mix Hf H fp):=fun a o e=>by
 unfold mix
 by_cases h:a ∈ fp
 ·rw [if_pos h];exact s a o e
 ·rw [if_neg h];exact e
theorem yL {Hf H:Hp} {fp:List Addr} (s:Same Hf H):Same (mix Hf H fp) H:=fun a o e=>by
 unfold mix at e
 by_cases h:a ∈ fp
 ·rw [if_pos h] at e;exact e
 ·rw [if_neg h] at e;exact s a o e
mutual
theorem RepO.froz {Hf H:Hp} (s:Same Hf H):∀ {fp v d} {fq:List Addr},RepO Hf H fp v d->(∀ a ∈ fp,a ∈ fq)->Rep (mix Hf H fq) v d.fz:=by
 intro _ _ _ _ hc m
 cases hc with
 | fz h _ =>
  exact (h.mono (dQ s)).fz
 | lst h r =>
  exact .lst (by rw [mj (m _ List.mem_cons_self)];exact h) (RepOs.froz s r fun a q=>m a (List.mem_cons_of_mem _ q))
 | dic h r =>
  exact .dic (by rw [mj (m _ List.mem_cons_self)];exact h) ((r.mono (dQ s)).fz)
 | slf h q r =>
  exact .ins (by rw [mj (m _ List.mem_cons_self)];exact h) (r.mono (dQ s))
theorem RepOs.froz {Hf H:Hp} (s:Same Hf H):∀ {fp v d} {fq:List Addr},RepOs Hf H fp v d->(∀ a ∈ fp,a ∈ fq)->Reps (mix Hf H fq) v (D.fzs d):=by
 intro _ _ _ _ hc m
 cases hc with
 | nil =>
  exact .nil
 | cons h r =>
  exact .cons (RepO.froz s h fun a q=>m a (List.mem_append_left _ q)) (RepOs.froz s r fun a q=>m a (List.mem_append_right _ q))
end
inductive Own (Hf H:Hp):List Addr->List (Option V)->List (Option D)->Prop
 | nil:Own Hf H [] [] []
 | skip {fp v vs ds}:Own Hf H fp vs ds->Own Hf H fp (v::vs) (none::ds)
 | cons {fp fq v d vs ds}:RepO Hf H fp v d->Own Hf H fq vs ds->Own Hf H (fp ++ fq) (some v::vs) (some d::ds)
 | brw {fp v d vs ds}:d.tag=.b->RepV Hf H v d->Own Hf H fp vs ds->Own Hf H fp (some v::vs) (some d::ds)
theorem Own.there {Hf H:Hp}:∀ {fp vs ds},Own Hf H fp vs ds->∀ a ∈ fp,∃ o,H a=some o:=by
 intro _ _ _ hc a m
 cases hc with
 | nil =>
  simp at m
 | skip r =>
  exact Own.there r a m
 | cons h r =>
  exact (List.mem_append.mp m).elim (h.there a) (Own.there r a)
 | brw _ _ r =>
  exact Own.there r a m
noncomputable def noB (ds:List (Option D)):Prop:=∀ d,some d ∈ ds->d.tag ≠ .b
theorem Own.keep {Hf H Hf' H':Hp} (s:Same Hf Hf'):∀ {fp vs ds},Own Hf H fp vs ds->noB ds->(∀ a o,a ∈ fp->H a=some o->H' a=some o)->Own Hf' H' fp vs ds:=by
 intro _ _ _ hc n k
 cases hc with
 | nil =>
  exact .nil
 | skip r =>
  exact .skip (Own.keep s r (fun d m=>n d (List.mem_cons_of_mem _ m)) k)
 | cons h r =>
  exact .cons (h.keep s fun a o m=>k a o (List.mem_append_left _ m)) (Own.keep s r (fun d m=>n d (List.mem_cons_of_mem _ m)) fun a o m=>k a o (List.mem_append_right _ m))
 | brw t h r =>
  exact absurd t (n _ List.mem_cons_self)
theorem Own.mono {Hf H Hf' H':Hp} (s:Same Hf Hf') (s':Same H H'):∀ {fp vs ds},Own Hf H fp vs ds->Own Hf' H' fp vs ds:=by
 intro _ _ _ hc
 cases hc with
 | nil =>
  exact .nil
 | skip r =>
  exact .skip (Own.mono s s' r)
 | cons h r =>
  exact .cons (h.keep s fun a o _=>s' a o) (Own.mono s s' r)
 | brw t h r =>
  exact .brw t (h.mono s s') (Own.mono s s' r)
theorem Own.take {Hf H:Hp}:∀ {fp vs ds} {i:Nat} {d},Own Hf H fp vs ds->ds[i]?=some (some d)->d.tag ≠ .b →
    ∃ v fp1 fp2,vs[i]?=some (some v)/\RepO Hf H fp1 v d/\Own Hf H fp2 vs (ds.set i none)/\fp.Perm (fp1 ++ fp2):=by
 intro _ _ _ ic d hc h n
 cases hc with
 | nil =>
  simp at h
 | skip r =>
  cases ic with
  | zero =>
   simp at h
  | succ i =>
   obtain ⟨v,fp1,fp2,e,q,r',p⟩:=Own.take (i:=i) r (by simpa using h) n
   exact ⟨v,fp1,fp2,by simpa using e,q,.skip r',p⟩
 | @cons f1 _ _ _ _ _ q0 r =>
  cases ic with
  | zero =>
   simp at h;subst h
   exact ⟨_,_,_,rfl,q0,.skip r,.refl _⟩
  | succ i =>
   obtain ⟨v,fp1,fp2,e,q,r',p⟩:=Own.take (i:=i) r (by simpa using h) n
   refine ⟨v,fp1,f1 ++ fp2,by simpa using e,q,.cons q0 r',?_⟩
   refine (List.Perm.append_left f1 p).trans ?_
   rw [<- List.append_assoc,<- List.append_assoc]
   exact List.Perm.append_right _ List.perm_append_comm
 | brw t q0 r =>
  cases ic with
  | zero =>
   simp at h;subst h
   exact absurd t n
  | succ i =>
   obtain ⟨v,fp1,fp2,e,q,r',p⟩:=Own.take (i:=i) r (by simpa using h) n
   exact ⟨v,fp1,fp2,by simpa using e,q,.brw t q0 r',p⟩
theorem Own.getV {Hf H:Hp}:∀ {fp vs ds} {i:Nat} {d},Own Hf H fp vs ds->ds[i]?=some (some d)->∃ v,vs[i]?=some (some v)/\RepV Hf H v d:=by
 intro _ _ _ ic d hc h
 cases hc with
 | nil =>
  simp at h
 | skip r =>
  cases ic with
  | zero =>
   simp at h
  | succ i =>
   simpa using Own.getV (i:=i) r (by simpa using h)
 | cons q r =>
  cases ic with
  | zero =>
   simp at h;subst h
   exact ⟨_,rfl,q.v⟩
  | succ i =>
   simpa using Own.getV (i:=i) r (by simpa using h)
 | brw t q r =>
  cases ic with
  | zero =>
   simp at h;subst h
   exact ⟨_,rfl,q⟩
  | succ i =>
   simpa using Own.getV (i:=i) r (by simpa using h)
theorem Own.put {Hf H:Hp} {fp1:List Addr} {v:V} {d:D} (q:RepO Hf H fp1 v d):∀ {fp vs ds} {i:Nat},Own Hf H fp vs ds->i < ds.length -> 
    ∃ fp',Own Hf H fp' (vs.set i (some v)) (ds.set i (some d))/\∃ fp2,fp'.Perm (fp1 ++ fp2)/\fp2.Sublist fp:=by
 intro _ _ _ ic hc h
 cases hc with
 | nil =>
  simp at h
 | skip r =>
  cases ic with
  | zero =>
   exact ⟨_,.cons q r,_,.refl _,.refl _⟩
  | succ i =>
   obtain ⟨fp',o,fp2,p,s⟩:=Own.put (i:=i) q r (by simpa using h)
   exact ⟨fp',.skip o,fp2,p,s⟩
 | @cons f1 _ _ _ _ _ q0 r =>
  cases ic with
  | zero =>
   exact ⟨_,.cons q r,_,.refl _,List.sublist_append_right _ _⟩
  | succ i =>
   obtain ⟨fp',o,fp2,p,s⟩:=Own.put (i:=i) q r (by simpa using h)
   refine ⟨f1 ++ fp',.cons q0 o,f1 ++ fp2,?_,s.append_left f1⟩
   refine (List.Perm.append_left f1 p).trans ?_
   rw [<- List.append_assoc,<- List.append_assoc]
   exact List.Perm.append_right _ List.perm_append_comm
 | brw t q0 r =>
  cases ic with
  | zero =>
   exact ⟨_,.cons q r,_,.refl _,.refl _⟩
  | succ i =>
   obtain ⟨fp',o,fp2,p,s⟩:=Own.put (i:=i) q r (by simpa using h)
   exact ⟨fp',.brw t q0 o,fp2,p,s⟩
structure Fine (Hs H0 Hf H:Hp) (fp:List Addr):Prop where
 nd:fp.Nodup
 own:∀ a ∈ fp,Hf a=none/\H0 a=none
 fh:Same Hf H
 zh:Same H0 H
 sf:Same Hs Hf
 new:∀ a o,Hf a=some o->(∃ o',Hs a=some o') \/ H0 a=none
noncomputable def SR (Hs H0 H:Hp) (vs:List (Option V)) (ds:List (Option D)):Prop:=∃ Hf fp,Own Hf H fp vs ds/\Fine Hs H0 Hf H fp
theorem Fine.sub {Hs H0 Hf H:Hp} {fp fq:List Addr} (F:Fine Hs H0 Hf H fp) (nd:fq.Nodup) (s:∀ a ∈ fq,a ∈ fp):Fine Hs H0 Hf H fq:=
 ⟨nd,fun a m=>F.own a (s a m),F.fh,F.zh,F.sf,F.new⟩
theorem Fine.subl {Hs H0 Hf H:Hp} {fp fq:List Addr} (F:Fine Hs H0 Hf H fp) (s:fq.Sublist fp):Fine Hs H0 Hf H fq:=F.sub (F.nd.sublist s) fun _ m=>s.subset m
theorem Fine.perm {Hs H0 Hf H:Hp} {fp fq:List Addr} (F:Fine Hs H0 Hf H fp) (p:fq.Perm fp):Fine Hs H0 Hf H fq:=F.sub (p.nodup_iff.mpr F.nd) fun _ m=>p.mem_iff.mp m
theorem Fine.froz {Hs H0 Hf H:Hp} {fp fq:List Addr} (F:Fine Hs H0 Hf H (fp ++ fq)):Fine Hs H0 (mix Hf H fp) H fq:=
 ⟨(List.nodup_append.mp F.nd).2.1,fun a m=>⟨by
  have hn:a ∉ fp:=fun z=>(List.nodup_append.mp F.nd).2.2 a z a m rfl
  rw [qW hn];exact (F.own a (List.mem_append_right _ m)).1,(F.own a (List.mem_append_right _ m)).2⟩,yL F.fh,F.zh,F.sf.trans (dQ F.fh),fun a o e=>by
  by_cases h:a ∈ fp
  ·exact .inr (F.own a (List.mem_append_left _ h)).2
  ·rw [qW h] at e;exact F.new a o e⟩
section
variable {Hs H0 H:Hp} {vs:List (Option V)} {ds:List (Option D)} {v:V} {d:D}
theorem SR.same (S:SR Hs H0 H vs ds):Same H0 H:=let ⟨_,_,_,F⟩:=S;F.zh
theorem SR.drop {v:Option V} {d:Option D} (S:SR Hs H0 H (v::vs) (d::ds)):SR Hs H0 H vs ds:=by
 obtain ⟨Hf,fp,O,F⟩:=S
 cases O with
 | skip r=>exact ⟨Hf,_,r,F⟩
 | cons h r=>exact ⟨Hf,_,r,F.subl (List.sublist_append_right _ _)⟩
 | brw t h r=>exact ⟨Hf,_,r,F⟩
theorem SR.head (S:SR Hs H0 H (some v::vs) (some d::ds)):Rep H v d:=by
 obtain ⟨Hf,fp,O,F⟩:=S
 cases O with
 | cons h r=>exact h.v.rep F.fh
 | brw t h r=>exact h.rep F.fh
theorem SR.atom (S:SR Hs H0 H vs ds) (h:∀ H,Rep H v d) (t:d.tag=.f):SR Hs H0 H (some v::vs) (some d::ds):=by
 obtain ⟨Hf,fp,O,F⟩:=S
 exact ⟨Hf,_,.cons (.fz (h Hf) t) O,F⟩
theorem SR.int (S:SR Hs H0 H vs ds) {i:Int}:SR Hs H0 H (some (.int i)::vs) (some (.int i)::ds):=S.atom (fun _=>.int) rfl
theorem SR.bl (S:SR Hs H0 H vs ds) {i:Bool}:SR Hs H0 H (some (.bl i)::vs) (some (.bl i)::ds):=S.atom (fun _=>.bl) rfl
theorem SR.str (S:SR Hs H0 H vs ds) {i:Str}:SR Hs H0 H (some (.str i)::vs) (some (.str i)::ds):=S.atom (fun _=>.str) rfl
theorem SR.non (S:SR Hs H0 H vs ds):SR Hs H0 H (some .non::vs) (some .non::ds):=S.atom (fun _=>.non) rfl
theorem SR.grow {H':Hp} (S:SR Hs H0 H vs ds) (s:Same H H'):SR Hs H0 H' vs ds:=by
 obtain ⟨Hf,fp,O,F⟩:=S
 exact ⟨Hf,fp,O.mono (Same.refl _) s,F.nd,F.own,F.fh.trans s,F.zh.trans s,F.sf,F.new⟩
theorem SR.frz (S:SR Hs H0 H (some v::vs) (some d::ds)) (t:d.tag ≠ .b):SR Hs H0 H (some v::vs) (some d.fz::ds):=by
 obtain ⟨Hf,fp,O,F⟩:=S
 cases O with
 | cons h r =>
  refine ⟨mix Hf H _,_,.cons (.fz (h.froz F.fh fun a m=>m) ?_) (r.mono (dQ F.fh) (Same.refl _)),F.froz⟩
  cases d <;> rfl
 | brw z h r=>exact absurd z t
theorem SR.get (S:SR Hs H0 H vs ds) {i:Nat} (e:ds[i]?=some (some d)):∃ v,vs[i]?=some (some v)/\SR Hs H0 H (some v::vs) (some d.rd::ds):=by
 obtain ⟨Hf,fp,O,F⟩:=S
 obtain ⟨v,e',h⟩:=O.getV e
 refine ⟨v,e',Hf,fp,?_,F⟩
 cases h with
 | fz h t =>
  have:d.rd=d:=by cases d <;> first | rfl | (cases t;rfl) | cases t
  rw [this]
  exact Own.cons (fp:=[]) (.fz h t) O
 | lst t h r =>
  rename_i tt
  refine .brw ?_ (?_:RepV Hf H _ (D.rd (.lst tt _))) O
  ·cases tt <;> first | rfl | exact absurd rfl t
  ·cases tt <;> first | exact absurd rfl t | exact .lst (by decide) h r
 | dic t h r =>
  rename_i tt
  refine .brw ?_ (?_:RepV Hf H _ (D.rd (.dic tt _))) O
  ·cases tt <;> first | rfl | exact absurd rfl t
  ·cases tt <;> first | exact absurd rfl t | exact .dic (by decide) h r
 | ins t h r =>
  rename_i tt
  refine .brw ?_ (?_:RepV Hf H _ (D.rd (.ins tt _ _))) O
  ·cases tt <;> first | rfl | exact absurd rfl t
  ·cases tt <;> first | exact absurd rfl t | exact .ins (by decide) h r
 | slf h r=>exact .brw rfl (.ins (by decide) h r) O
end
end Mi
namespace Mi
open PySem L2
noncomputable def D.asF:D->D
 | .lst _ xs=>.lst .f xs
 | .dic _ xs=>.dic .f xs
 | .ins _ C fs=>.ins .f C fs
 | .slf _ C fs=>.ins .f C fs
 | d=>d
theorem D.asF_tag (d:D):d.asF.tag=.f:=by cases d <;> rfl
theorem D.fz_tag (d:D):d.fz.tag=.f:=by cases d <;> rfl
theorem Rep.asF {H:Hp} {v:V} {d:D} (h:Rep H v d):Rep H v d.asF:=by
 cases h with
 | lst h r=>exact .lst h r
 | dic h r=>exact .dic h r
 | non=>exact .non
 | bl=>exact .bl
 | int=>exact .int
 | str=>exact .str
 | tup h r=>exact .tup h r
 | ins h r=>exact .ins h r
 | scr h=>exact .scr h
 | slf h r=>exact .ins h r
theorem RepOs.ofReps {Hf H:Hp}:∀ {us es},Reps Hf us es->(∀ e ∈ es,e.tag=.f)->RepOs Hf H [] us es:=by
 intro _ _ hc t
 cases hc with
 | nil =>
  exact .nil
 | cons h r =>
  exact RepOs.cons (fp:=[]) (.fz h (t _ List.mem_cons_self)) (RepOs.ofReps r fun e m=>t e (List.mem_cons_of_mem _ m))
theorem jf (es:List D):∀ e ∈ D.fzs es,e.tag=.f:=by
 rw [D.fzs_map]
 intro e m
 obtain ⟨x,_,rfl⟩:=List.mem_map.mp m
 exact x.fz_tag
section
variable {Hs H0 H Hf:Hp} {vs:List (Option V)} {ds:List (Option D)} {v:V} {d:D} {fp:List Addr}
theorem SR.set (S:SR Hs H0 H (some v::vs) (some d::ds)) (t:d.tag ≠ .b) {i:Nat} (hi:i < ds.length):SR Hs H0 H (vs.set i (some v)) (ds.set i (some d)):=by
 obtain ⟨Hf,fp,O,F⟩:=S
 cases O with
 | cons h r =>
  obtain ⟨fp',O',fp2,p,s⟩:=Own.put h r hi
  exact ⟨Hf,fp',O',(F.subl (List.Sublist.append_left s _)).perm p⟩
 | brw z h r=>exact absurd z t
theorem SR.only {vs':List (Option V)} {ds':List (Option D)} (S:SR Hs H0 H (some v::vs) (some d::ds)):SR Hs H0 H [some v] [some d]:=by
 obtain ⟨Hf,fp,O,F⟩:=S
 cases O with
 | cons h r =>
  rename_i fp1 fp2
  have:=Own.cons h (Own.nil (Hf:=Hf) (H:=H))
  exact ⟨Hf,_,this,F.subl (by simp)⟩
 | brw z h r=>exact ⟨Hf,[],.brw z h .nil,F.subl (List.nil_sublist _)⟩
theorem SR.move (S:SR Hs H0 H vs ds) {i:Nat} (e:ds[i]?=some (some d)) (t:d.tag ≠ .b):∃ v,vs[i]?=some (some v)/\SR Hs H0 H (some v::vs) (some d::ds.set i none):=by
 obtain ⟨Hf,fp,O,F⟩:=S
 obtain ⟨v,fp1,fp2,e',h,O',p⟩:=O.take e t
 exact ⟨v,e',Hf,_,.cons h O',F.perm p.symm⟩
noncomputable def hv (us:List V):List (Option V):=us.reverse.map some
noncomputable def hd (es:List D):List (Option D):=es.reverse.map some
theorem ny (us:List V) (u:V) (vs:List (Option V)):hv (us ++ [u]) ++ vs=some u::(hv us ++ vs):=by simp [hv]
theorem nz (us:List D) (u:D) (vs:List (Option D)):hd (us ++ [u]) ++ vs=some u::(hd us ++ vs):=by simp [hd]
theorem Own.takeAll {us:List V} {es:List D} (hl:us.length=es.length) (hb:∀ e ∈ es,e.tag ≠ .b) (O:Own Hf H fp (hv us ++ vs) (hd es ++ ds)) :
    ∃ fp1 fp2,RepOs Hf H fp1 us es/\Own Hf H fp2 vs ds/\fp.Perm (fp1 ++ fp2):=by
 induction us using List.reverseRecOn' generalizing es fp with
 | nil =>
  have:es=[]:=by cases es with | nil=>rfl | cons x y=>simp at hl
  subst this
  exact ⟨[],fp,.nil,by simpa [hv,hd] using O,.refl _⟩
 | snoc us u ih =>
  obtain ⟨es',e,rfl⟩:∃ es' e,es=es' ++ [e]:=by
   cases es using List.reverseRecOn' with
   | nil=>simp at hl
   | snoc es' e=>exact ⟨es',e,rfl⟩
  rw [ny,nz] at O
  have hl':us.length=es'.length:=by simpa using hl
  cases O with
  | cons h r =>
   rename_i f1 f2
   obtain ⟨fp1,fp2,R,O',p⟩:=ih hl' (fun x m=>hb x (List.mem_append_left _ m)) r
   have R1:RepOs Hf H (f1 ++ []) [u] [e]:=.cons h .nil
   refine ⟨fp1 ++ f1,fp2,by simpa using R.append R1,O',?_⟩
   refine (List.Perm.append_left _ p).trans ?_
   rw [<- List.append_assoc]
   exact List.Perm.append_right _ List.perm_append_comm
  | brw z h r=>exact absurd z (hb e (by simp))
theorem SR.mkList {us:List V} {es:List D} (S:SR Hs H0 H (hv us ++ vs) (hd es ++ ds)) (hl:us.length=es.length) (hb:∀ e ∈ es,e.tag ≠ .b) {p:Addr} (hp:H p=none) :
    SR Hs H0 (upd H p (.lst us)) (some (.ref p)::vs) (some (.lst .o es)::ds):=by
 obtain ⟨Hf,fp,O,F⟩:=S
 obtain ⟨fp1,fp2,R,O',pm⟩:=O.takeAll hl hb
 have F':=F.perm pm.symm
 have s:Same H (upd H p (.lst us)):=fun b o e=>by rw [aZ (bB e hp)];exact e
 have hnp:p ∉ fp1 ++ fp2:=fun m=>by
  rcases List.mem_append.mp m with m | m
  ·obtain ⟨o,e⟩:=R.there p m;rw [hp] at e;cases e
  ·obtain ⟨o,e⟩:=O'.there p m;rw [hp] at e;cases e
 have hf0:∀ {H1:Hp},Same H1 H->H1 p=none:=fun {H1} q=>by
  cases e:H1 p with
  | none=>rfl
  | some o=>have:=q p o e;rw [hp] at this;cases this
 refine ⟨Hf,(p::fp1) ++ fp2,.cons (.lst bC (R.keep (Same.refl _) fun a o _ e=>s a o e)) (O'.mono (Same.refl _) s),?_,?_,F'.fh.trans s,F'.zh.trans s,F'.sf,F'.new⟩
 ·rw [List.cons_append];exact List.nodup_cons.mpr ⟨hnp,F'.nd⟩
 ·intro a m
  rw [List.cons_append] at m
  rcases List.mem_cons.mp m with e | m
  ·subst e;exact ⟨hf0 F'.fh,hf0 F'.zh⟩
  ·exact F'.own a m
theorem SR.frozen {us:List V} {es:List D} (S:SR Hs H0 H (hv us ++ vs) (hd es ++ ds)) (hl:us.length=es.length) (hb:∀ e ∈ es,e.tag ≠ .b) :
    ∃ Hf fp,Own Hf H fp vs ds/\Fine Hs H0 Hf H fp/\Reps Hf us (D.fzs es):=by
 obtain ⟨Hf,fp,O,F⟩:=S
 obtain ⟨fp1,fp2,R,O',pm⟩:=O.takeAll hl hb
 have F':=F.perm pm.symm
 exact ⟨mix Hf H fp1,fp2,O'.mono (dQ F'.fh) (Same.refl _),F'.froz,R.froz F'.fh fun a m=>m⟩
theorem Fine.fresh (F:Fine Hs H0 Hf H fp) {p:Addr} (hp:H p=none):Hf p=none/\H0 p=none:=by
 constructor
 ·cases e:Hf p with
  | none=>rfl
  | some o=>have:=F.fh p o e;rw [hp] at this;cases this
 ·cases e:H0 p with
  | none=>rfl
  | some o=>have:=F.zh p o e;rw [hp] at this;cases this
theorem SR.laidF {o:HO} (O:Own Hf H fp vs ds) (F:Fine Hs H0 Hf H fp) {p:Addr} (hp:H p=none) (r:Rep (upd Hf p o) v d) (t:d.tag=.f) :
    SR Hs H0 (upd H p o) (some v::vs) (some d::ds):=by
 obtain ⟨hf,h0⟩:=F.fresh hp
 have s:Same H (upd H p o):=fun b o e=>by rw [aZ (bB e hp)];exact e
 have sf:Same Hf (upd Hf p o):=fun b o e=>by rw [aZ (bB e hf)];exact e
 refine ⟨upd Hf p o,[] ++ fp,.cons (.fz r t) (O.mono sf s),F.nd,fun a m=>?_,fun b u e=>?_,F.zh.trans s,F.sf.trans sf,fun a u e=>?_⟩
 ·have hne:a ≠ p:=fun z=>by subst z;obtain ⟨o,e⟩:=O.there a m;rw [hp] at e;cases e
  rw [aZ hne];exact F.own a m
 ·by_cases hb:b=p
  ·subst hb;rw [bC] at e ⊢;exact e
  ·rw [aZ hb] at e ⊢;exact F.fh b u e
 ·by_cases hb:a=p
  ·subst hb;exact .inr h0
  ·rw [aZ hb] at e;exact F.new a u e
theorem SR.mkTup {us:List V} {es:List D} (S:SR Hs H0 H (hv us ++ vs) (hd es ++ ds)) (hl:us.length=es.length) (hb:∀ e ∈ es,e.tag ≠ .b) {p:Addr} (hp:H p=none) :
    SR Hs H0 (upd H p (.tup us)) (some (.ref p)::vs) (some (.tup (D.fzs es))::ds):=by
 obtain ⟨Hf,fp,O,F,R⟩:=S.frozen hl hb
 have sf:Same Hf (upd Hf p (.tup us)):=fun b o e=>by rw [aZ (bB e (F.fresh hp).1)];exact e
 exact SR.laidF O F hp (.tup bC (R.mono sf)) rfl
noncomputable def D.its:D->Option (List D)
 | .lst .b xs=>if xs.all (fun x=>x.tag == .f) then some xs else none
 | .lst .f xs=>some (xs.map D.asF)
 | .lst .o xs=>some (D.fzs xs)
 | .tup xs=>some (xs.map D.asF)
 | _=>none
theorem Reps.asF {H:Hp}:∀ {us es},Reps H us es->Reps H us (es.map D.asF):=by
 intro _ _ hc
 cases hc with
 | nil =>
  exact .nil
 | cons h r =>
  exact .cons h.asF (Reps.asF r)
theorem RepVs.frozen {Hf H:Hp}:∀ {us es},RepVs Hf H us es->(∀ e ∈ es,e.tag=.f)->Reps Hf us es:=by
 intro _ _ hc t
 cases hc with
 | nil =>
  exact .nil
 | cons h r =>
  exact .cons (by
        cases h with
        | fz h _=>exact h
        | lst z _ _=>exact absurd (t _ List.mem_cons_self) z
        | dic z _ _=>exact absurd (t _ List.mem_cons_self) z
        | ins z _ _=>exact absurd (t _ List.mem_cons_self) z
        | slf _ _=>exact absurd (t _ List.mem_cons_self) (fun z=>nomatch z)) (RepVs.frozen r fun e m=>t e (List.mem_cons_of_mem _ m))
theorem D.its_tag {d:D} {ys:List D} (h:d.its=some ys):∀ e ∈ ys,e.tag=.f:=by
 cases d with
 | lst t xs =>
  cases t with
  | f=>simp [D.its] at h;subst h;intro e m;obtain ⟨x,_,rfl⟩:=List.mem_map.mp m;exact x.asF_tag
  | o=>simp [D.its] at h;subst h;exact jf xs
  | b =>
   simp only [D.its] at h
   split at h
   ·cases h
    rename_i hall
    intro e m
    simpa using List.all_eq_true.mp hall e m
   ·cases h
 | tup xs=>simp [D.its] at h;subst h;intro e m;obtain ⟨x,_,rfl⟩:=List.mem_map.mp m;exact x.asF_tag
 | _=>simp [D.its] at h
noncomputable def D.isL:D->Bool
 | .lst _ _=>true
 | _=>false
theorem Own.items (O:Own Hf H fp (some v::vs) (some d::ds)) (F:Fine Hs H0 Hf H fp) {ys:List D} (hy:d.its=some ys) :
    ∃ a us,v=.ref a/\(H a=some (if d.isL then .lst us else .tup us))/\∃ Hg fq,Own Hg H fq vs ds/\Fine Hs H0 Hg H fq/\Same Hf Hg/\Reps Hg us ys:=by
 cases d with
 | lst t xs =>
  cases t with
  | f =>
   simp [D.its] at hy;subst hy
   cases O with
   | cons h r =>
    cases h with
    | fz h _=>cases h with | lst h q=>exact ⟨_,_,rfl,F.fh _ _ h,Hf,_,r,F.subl (List.sublist_append_right _ _),Same.refl _,q.asF⟩
   | brw z h r=>cases z
  | o =>
   simp [D.its] at hy;subst hy
   cases O with
   | cons h r =>
    cases h with
    | fz h z=>cases z
    | lst h q =>
     rename_i a xs' fp1
     refine ⟨_,_,rfl,h,mix Hf H (a::fp1),_,r.mono (dQ F.fh) (Same.refl _),F.froz,dQ F.fh,q.froz F.fh fun b m=>List.mem_cons_of_mem _ m⟩
   | brw z h r=>cases z
  | b =>
   simp only [D.its] at hy
   split at hy
   ·cases hy
    rename_i hall
    cases O with
    | cons h r =>
     cases h with
     | fz h z=>cases z
    | brw z h r =>
     cases h with
     | fz h z=>cases z
     | lst z h q=>exact ⟨_,_,rfl,h,Hf,_,r,F,Same.refl _,q.frozen fun e m=>by simpa using List.all_eq_true.mp hall e m⟩
   ·cases hy
 | tup xs =>
  simp [D.its] at hy;subst hy
  cases O with
  | cons h r =>
   cases h with
   | fz h _=>cases h with | tup h q=>exact ⟨_,_,rfl,F.fh _ _ h,Hf,_,r,F.subl (List.sublist_append_right _ _),Same.refl _,q.asF⟩
  | brw z h r=>cases z
 | _=>simp [D.its] at hy
theorem SR.items (S:SR Hs H0 H (some v::vs) (some d::ds)) {ys:List D} (hy:d.its=some ys) :
    ∃ a us,v=.ref a/\(H a=some (if d.isL then .lst us else .tup us))/\∃ Hf fp,Own Hf H fp vs ds/\Fine Hs H0 Hf H fp/\Reps Hf us ys:=by
 obtain ⟨Hf,fp,O,F⟩:=S
 obtain ⟨a,us,e1,e2,Hg,fq,O',F',_,R⟩:=O.items F hy
 exact ⟨a,us,e1,e2,Hg,fq,O',F',R⟩
theorem Own.itemsC (O:Own Hf H fp (some v::vs) (some d::ds)) (F:Fine Hs H0 Hf H fp) {ys:List D} (hy:d.its=some ys) (tb:d.tag ≠ .b) :
    ∃ a us,v=.ref a/\∃ Hg fq,Own Hg H fq vs ds/\Fine Hs H0 Hg H fq/\Same Hf Hg/\Hg a=some (if d.isL then .lst us else .tup us)/\Reps Hg us ys:=by
 cases d with
 | lst t xs =>
  cases t with
  | f =>
   simp [D.its] at hy;subst hy
   cases O with
   | cons h r =>
    cases h with
    | fz h _=>cases h with | lst h q=>exact ⟨_,_,rfl,Hf,_,r,F.subl (List.sublist_append_right _ _),Same.refl _,h,q.asF⟩
   | brw z h r=>cases z
  | o =>
   simp [D.its] at hy;subst hy
   cases O with
   | cons h r =>
    cases h with
    | fz h z=>cases z
    | lst h q =>
     rename_i a xs' fp1
     exact ⟨_,_,rfl,mix Hf H (a::fp1),_,r.mono (dQ F.fh) (Same.refl _),F.froz,dQ F.fh,by rw [mj List.mem_cons_self];exact h,q.froz F.fh fun b m=>List.mem_cons_of_mem _ m⟩
   | brw z h r=>cases z
  | b=>exact absurd rfl tb
 | tup xs =>
  simp [D.its] at hy;subst hy
  cases O with
  | cons h r =>
   cases h with
   | fz h _=>cases h with | tup h q=>exact ⟨_,_,rfl,Hf,_,r,F.subl (List.sublist_append_right _ _),Same.refl _,h,q.asF⟩
  | brw z h r=>cases z
 | _=>simp [D.its] at hy
noncomputable def D.el:D->Nat->Option D
 | .lst .f xs,i=>xs[i]?.map D.asF
 | .lst .o xs,i=>xs[i]?
 | .lst .b xs,i=>xs[i]?.map D.rd
 | .tup xs,i=>xs[i]?.map D.asF
 | _,_=>none
theorem RepOs.item {Hf H:Hp}:∀ {fp us es} {i:Nat} {e},RepOs Hf H fp us es->es[i]?=some e->∃ u fp1,us[i]?=some u/\RepO Hf H fp1 u e/\fp1.Sublist fp:=by
 intro _ _ _ ic e hc q
 cases hc with
 | nil =>
  simp at q
 | cons h r =>
  cases ic with
  | zero =>
   simp at q;subst q;exact ⟨_,_,rfl,h,List.sublist_append_left _ _⟩
  | succ i =>
   obtain ⟨u,fp1,a,b,c⟩:=RepOs.item (i:=i) r (by simpa using q)
   exact ⟨u,fp1,by simpa using a,b,c.trans (List.sublist_append_right _ _)⟩
theorem SR.elem (S:SR Hs H0 H (some v::vs) (some d::ds)) {i:Nat} {e:D} (he:d.el i=some e) :
    ∃ a us u,v=.ref a/\(H a=some (if d.isL then .lst us else .tup us))/\us[i]?=some u/\SR Hs H0 H (some u::vs) (some e::ds):=by
 obtain ⟨Hf,fp,O,F⟩:=S
 cases d with
 | lst t xs =>
  cases t with
  | f =>
   simp [D.el] at he
   obtain ⟨x,hx,rfl⟩:=he
   cases O with
   | cons h r =>
    cases h with
    | fz h _ =>
     cases h with
     | lst h q =>
      obtain ⟨u,hu,ru⟩:=q.get hx
      exact ⟨_,_,u,rfl,F.fh _ _ h,hu,Hf,_,.cons (.fz ru.asF x.asF_tag) r,F.subl (by simp)⟩
   | brw z h r=>cases z
  | o =>
   simp [D.el] at he
   cases O with
   | cons h r =>
    cases h with
    | fz h z=>cases z
    | lst h q =>
     obtain ⟨u,fp1,hu,ru,sl⟩:=q.item he
     exact ⟨_,_,u,rfl,h,hu,Hf,_,.cons ru r,F.subl (List.Sublist.append_right (sl.trans (List.sublist_cons_self _ _)) _)⟩
   | brw z h r=>cases z
  | b =>
   simp [D.el] at he
   obtain ⟨x,hx,rfl⟩:=he
   cases O with
   | cons h r =>
    cases h with
    | fz h z=>cases z
   | brw z h r =>
    cases h with
    | fz h z=>cases z
    | lst z h q =>
     obtain ⟨u,hu,ru⟩:=q.get hx
     refine ⟨_,_,u,rfl,h,hu,Hf,?_⟩
     cases ru with
     | fz ru t =>
      have:x.rd=x:=by cases x <;> first | rfl | (cases t;rfl) | cases t
      rw [this]
      exact ⟨_,.cons (.fz ru t) r,F⟩
     | lst t h' r' =>
      rename_i tt
      refine ⟨_,.brw ?_ ?_ r,F⟩
      ·cases tt <;> first | rfl | exact absurd rfl t
      ·cases tt <;> first | exact absurd rfl t | exact .lst (by decide) h' r'
     | dic t h' r' =>
      rename_i tt
      refine ⟨_,.brw ?_ ?_ r,F⟩
      ·cases tt <;> first | rfl | exact absurd rfl t
      ·cases tt <;> first | exact absurd rfl t | exact .dic (by decide) h' r'
     | ins t h' r' =>
      rename_i tt
      refine ⟨_,.brw ?_ ?_ r,F⟩
      ·cases tt <;> first | rfl | exact absurd rfl t
      ·cases tt <;> first | exact absurd rfl t | exact .ins (by decide) h' r'
     | slf h' r'=>exact ⟨_,.brw rfl (.ins (by decide) h' r') r,F⟩
 | tup xs =>
  simp [D.el] at he
  obtain ⟨x,hx,rfl⟩:=he
  cases O with
  | cons h r =>
   cases h with
   | fz h _ =>
    cases h with
    | tup h q =>
     obtain ⟨u,hu,ru⟩:=q.get hx
     exact ⟨_,_,u,rfl,F.fh _ _ h,hu,Hf,_,.cons (.fz ru.asF x.asF_tag) r,F.subl (by simp)⟩
  | brw z h r=>cases z
 | _=>simp [D.el] at he
theorem SR.told {H':Hp} (O:Own Hf H fp vs ds) (F:Fine Hs H0 Hf H fp) (R:SR Hf H H' [some v] [some d]) (t:d.tag ≠ .b):SR Hs H0 H' (some v::vs) (some d::ds):=by
 obtain ⟨Hg,fq,O',G⟩:=R
 cases O' with
 | cons h r =>
  cases r
  rename_i fq
  rw [List.append_nil] at G
  have sH:=G.zh
  refine ⟨Hg,fq ++ fp,.cons h (O.mono G.sf sH),?_,fun a m=>?_,G.fh,F.zh.trans sH,F.sf.trans G.sf,fun a o e=>?_⟩
  ·refine List.nodup_append.mpr ⟨G.nd,F.nd,fun a m b n z=>?_⟩
   subst z
   obtain ⟨o,e⟩:=O.there a n
   rw [(G.own a m).2] at e;cases e
  ·rcases List.mem_append.mp m with m | m
   ·refine ⟨(G.own a m).1,?_⟩
    cases e:H0 a with
    | none=>rfl
    | some o=>have:=F.zh a o e;rw [(G.own a m).2] at this;cases this
   ·refine ⟨?_,(F.own a m).2⟩
    cases e:Hg a with
    | none=>rfl
    | some o =>
     rcases G.new a o e with ⟨o',z⟩ | z
     ·rw [(F.own a m).1] at z;cases z
     ·obtain ⟨o',y⟩:=O.there a m;rw [z] at y;cases y
  ·rcases G.new a o e with ⟨o',z⟩ | z
   ·exact F.new a o' z
   ·refine .inr ?_
    cases q:H0 a with
    | none=>rfl
    | some u=>have:=F.zh a u q;rw [z] at this;cases this
 | brw z h r=>exact absurd z t
end
theorem RepOs.pick {Hf H:Hp}:∀ {fp us es} {k:Nat} {e},RepOs Hf H fp us es->es[k]?=some e →
    ∃ u f1 f2,us[k]?=some u/\RepO Hf H f1 u e/\RepOs Hf H f2 (us.eraseIdx k) (es.eraseIdx k)/\fp.Perm (f1 ++ f2):=by
 intro _ _ _ ic e hc q
 cases hc with
 | nil =>
  simp at q
 | @cons f0 _ _ _ _ _ h r =>
  cases ic with
  | zero =>
   simp at q;subst q;exact ⟨_,_,_,rfl,h,r,.refl _⟩
  | succ k =>
   obtain ⟨u,f1,f2,a,b,c,p⟩:=RepOs.pick (k:=k) r (by simpa using q)
   refine ⟨u,f1,f0 ++ f2,by simpa using a,b,.cons h c,(List.Perm.append_left f0 p).trans ?_⟩
   rw [<- List.append_assoc,<- List.append_assoc]
   exact List.Perm.append_right _ List.perm_append_comm
theorem RepOs.put {Hf H:Hp} {f1:List Addr} {v:V} {d:D} (h1:RepO Hf H f1 v d):∀ {fp us es} {k:Nat},RepOs Hf H fp us es->k < es.length →
    ∃ fp' f2,RepOs Hf H fp' (us.set k v) (es.set k d)/\fp'.Perm (f1 ++ f2)/\f2.Sublist fp:=by
 intro _ _ _ ic hc q
 cases hc with
 | nil =>
  simp at q
 | @cons f0 _ _ _ _ _ h r =>
  cases ic with
  | zero =>
   exact ⟨_,_,.cons h1 r,.refl _,List.sublist_append_right _ _⟩
  | succ k =>
   obtain ⟨fp',f2,a,p,s⟩:=RepOs.put (k:=k) h1 r (by simpa using q)
   refine ⟨f0 ++ fp',f0 ++ f2,.cons h a,(List.Perm.append_left f0 p).trans ?_,s.append_left f0⟩
   rw [<- List.append_assoc,<- List.append_assoc]
   exact List.Perm.append_right _ List.perm_append_comm
theorem Own.fill {Hf H:Hp} {fp1:List Addr} {v:V} {d:D} (q:RepO Hf H fp1 v d):∀ {fp vs ds} {i:Nat},Own Hf H fp vs ds->ds[i]?=some none →
    ∃ fp',Own Hf H fp' (vs.set i (some v)) (ds.set i (some d))/\fp'.Perm (fp1 ++ fp):=by
 intro _ _ _ ic hc h
 cases hc with
 | nil =>
  simp at h
 | skip r =>
  cases ic with
  | zero =>
   exact ⟨_,.cons q r,.refl _⟩
  | succ i =>
   obtain ⟨fp',o,p⟩:=Own.fill (i:=i) q r (by simpa using h)
   exact ⟨fp',.skip o,p⟩
 | @cons f1 _ _ _ _ _ q0 r =>
  cases ic with
  | zero =>
   simp at h
  | succ i =>
   obtain ⟨fp',o,p⟩:=Own.fill (i:=i) q r (by simpa using h)
   refine ⟨f1 ++ fp',.cons q0 o,?_⟩
   refine (List.Perm.append_left f1 p).trans ?_
   rw [<- List.append_assoc,<- List.append_assoc]
   exact List.Perm.append_right _ List.perm_append_comm
 | brw t q0 r =>
  cases ic with
  | zero =>
   simp at h
  | succ i =>
   obtain ⟨fp',o,p⟩:=Own.fill (i:=i) q r (by simpa using h)
   exact ⟨fp',.brw t q0 o,p⟩
section
variable {Hs H0 H Hf:Hp} {vs:List (Option V)} {ds:List (Option D)} {v:V} {d:D} {fp:List Addr}
theorem noB.set (n:noB ds) {i:Nat} {x:Option D} (h:∀ d,x=some d->d.tag ≠ .b):noB (ds.set i x):=fun d m=>by
 rcases List.mem_or_eq_of_mem_set m with m | e
 ·exact n d m
 ·exact h d e.symm
theorem Own.write (O:Own Hf H fp vs ds) (n:noB ds) (nd:fp.Nodup) {i:Nat} (e:ds[i]?=some (some d)) (t:d.tag=.o) :
    ∃ p fpx fpr,vs[i]?=some (some (.ref p))/\RepO Hf H (p::fpx) (.ref p) d/\fp.Perm (p::fpx ++ fpr) ∧
     ∀ H' d' fq,(∀ a o,a ∈ fpr->H a=some o->H' a=some o)->RepO Hf H' fq (.ref p) d'->∃ fp',Own Hf H' fp' vs (ds.set i (some d'))/\fp'.Perm (fq ++ fpr):=by
 obtain ⟨v,fp1,fp2,e',h,O',pm⟩:=O.take e (by rw [t];decide)
 have hi:i < ds.length:=(List.getElem?_eq_some_iff.mp e).1
 have hvi:vs.set i (some v)=vs:=by
  obtain ⟨a,b⟩:=List.getElem?_eq_some_iff.mp e'
  rw [<- b];exact List.set_getElem_self a
 have fin:∀ H' d' fq,(∀ a o,a ∈ fp2->H a=some o->H' a=some o)->RepO Hf H' fq v d'->∃ fp',Own Hf H' fp' vs (ds.set i (some d'))/\fp'.Perm (fq ++ fp2):=fun H' d' fq kp h'=>by
  have O1:Own Hf H' fp2 vs (ds.set i none):=O'.keep (Same.refl _) (n.set fun _ z=>nomatch z) kp
  obtain ⟨fp',O2,p2⟩:=O1.fill h' (i:=i) (by simp [hi])
  rw [hvi,List.set_set] at O2
  exact ⟨fp',O2,p2⟩
 cases h with
 | fz h z=>rw [t] at z;cases z
 | lst h r=>exact ⟨_,_,_,e',.lst h r,pm,fin⟩
 | dic h r=>exact ⟨_,[],_,e',.dic h r,pm,fin⟩
 | slf h q r=>exact ⟨_,[_],_,e',.slf h q r,pm,fin⟩
theorem fU {H:Hp} {p:Addr} {o:HO} {a:Addr} {u:HO} (h:a ≠ p) (e:H a=some u):upd H p o a=some u:=by rw [aZ h];exact e
theorem Fine.wrote (F:Fine Hs H0 Hf H fp) {p:Addr} (hp:p ∈ fp) {o:HO} {fq:List Addr} (nd:fq.Nodup) (own:∀ a ∈ fq,Hf a=none/\H0 a=none):Fine Hs H0 Hf (upd H p o) fq:=by
 have ne:∀ {H1:Hp},H1 p=none->Same H1 H->Same H1 (upd H p o):=fun {H1} hn s a u e=>by
  refine fU (fun z=>?_) (s a u e)
  subst z;rw [hn] at e;cases e
 exact ⟨nd,own,ne (F.own p hp).1 F.fh,ne (F.own p hp).2 F.zh,F.sf,F.new⟩
theorem SR.append (S:SR Hs H0 H (some v::vs) (some d::ds)) (t:d.tag ≠ .b) (n:noB ds) {i:Nat} {xs:List D} (e:ds[i]?=some (some (.lst .o xs))) :
    ∃ p us,vs[i]?=some (some (.ref p))/\H p=some (.lst us)/\us.length=xs.length/\SR Hs H0 (upd H p (.lst (us ++ [v]))) vs (ds.set i (some (.lst .o (xs ++ [d])))):=by
 obtain ⟨Hf,fp,O,F⟩:=S
 cases O with
 | brw z h r=>exact absurd z t
 | cons h r =>
  rename_i f0 f1
  obtain ⟨p,fpx,fpr,e',q,pm,w⟩:=r.write n (List.nodup_append.mp F.nd).2.1 e rfl
  cases q with
  | lst q R =>
   rename_i us
   have pm':(f0 ++ f1).Perm (p::(fpx ++ f0) ++ fpr):=by
    refine (List.Perm.append_left f0 pm).trans ?_
    rw [List.cons_append,List.cons_append]
    refine List.perm_middle.trans (List.Perm.cons p ?_)
    rw [<- List.append_assoc]
    exact List.Perm.append_right _ List.perm_append_comm
   have F':=F.perm pm'.symm
   have hpn:p ∉ (fpx ++ f0) ++ fpr:=by
    have:=F'.nd
    rw [List.cons_append] at this
    exact (List.nodup_cons.mp this).1
   have hp:p ∈ f0 ++ f1:=pm'.symm.subset (by simp)
   have kp:∀ (l:List Addr),(∀ a ∈ l,a ∈ (fpx ++ f0) ++ fpr)->∀ a o,a ∈ l->H a=some o->upd H p (.lst (us ++ [v])) a=some o:=fun l hl a o m z =>
    fU (fun y=>by subst y;exact hpn (hl a m)) z
   have R':RepOs Hf (upd H p (.lst (us ++ [v]))) (fpx ++ f0) (us ++ [v]) (xs ++ [d]):=by
    have r1:RepOs Hf (upd H p (.lst (us ++ [v]))) (f0 ++ []) [v] [d]:=.cons (h.keep (Same.refl _) (kp f0 fun a m=>by simp [m])) .nil
    rw [List.append_nil] at r1
    exact (R.keep (Same.refl _) (kp fpx fun a m=>by simp [m])).append r1
   obtain ⟨fp',O',p'⟩:=w (upd H p (.lst (us ++ [v]))) (.lst .o (xs ++ [d])) (p::(fpx ++ f0)) (kp fpr fun a m=>by simp [m]) (.lst bC R')
   refine ⟨p,us,e',q,R.length,Hf,fp',O',F.wrote hp ?_ ?_⟩
   ·exact (p'.nodup_iff).mpr F'.nd
   ·intro a m
    exact F'.own a (p'.subset m)
theorem SR.popAt (S:SR Hs H0 H vs ds) (n:noB ds) {i k:Nat} {xs:List D} {x:D} (e:ds[i]?=some (some (.lst .o xs))) (ex:xs[k]?=some x) (tx:x.tag ≠ .b) :
    ∃ p us u,vs[i]?=some (some (.ref p))/\H p=some (.lst us)/\us.length=xs.length/\us[k]?=some u ∧
     SR Hs H0 (upd H p (.lst (us.eraseIdx k))) (some u::vs) (some x::ds.set i (some (.lst .o (xs.eraseIdx k)))):=by
 obtain ⟨Hf,fp,O,F⟩:=S
 obtain ⟨p,fpx,fpr,e',q,pm,w⟩:=O.write n F.nd e rfl
 cases q with
 | lst q R =>
  rename_i us
  obtain ⟨u,f1,f2,eu,hu,R2,p2⟩:=R.pick ex
  have pm':fp.Perm (f1 ++ (p::f2 ++ fpr)):=by
   refine pm.trans ?_
   rw [List.cons_append,List.cons_append]
   refine List.Perm.trans (List.Perm.cons p ((List.Perm.append_right fpr p2).trans (by rw [List.append_assoc]))) List.perm_middle.symm
  have F':=F.perm pm'.symm
  have hp:p ∈ fp:=pm'.symm.subset (by simp)
  have nd':=F'.nd
  have hpn:p ∉ f1 ++ (f2 ++ fpr):=by
   have:(p::(f1 ++ (f2 ++ fpr))).Nodup:=(List.perm_middle.nodup_iff).mp (by simpa using nd')
   exact (List.nodup_cons.mp this).1
  have kp:∀ (l:List Addr),(∀ a ∈ l,a ∈ f1 ++ (f2 ++ fpr))->∀ a o,a ∈ l->H a=some o->upd H p (.lst (us.eraseIdx k)) a=some o:=fun l hl a o m z =>
   fU (fun y=>by subst y;exact hpn (hl a m)) z
  obtain ⟨fp',O',p'⟩:=w (upd H p (.lst (us.eraseIdx k))) (.lst .o (xs.eraseIdx k)) (p::f2) (kp fpr fun a m=>by simp [m]) (.lst bC (R2.keep (Same.refl _) (kp f2 fun a m=>by simp [m])))
  refine ⟨p,us,u,e',q,R.length,eu,Hf,f1 ++ fp',.cons (hu.keep (Same.refl _) (kp f1 fun a m=>by simp [m])) O',F.wrote hp ?_ ?_⟩
  ·exact ((List.Perm.append_left f1 p').nodup_iff).mpr nd'
  ·intro a m
   exact F'.own a ((List.Perm.append_left f1 p').subset m)
theorem SR.setAt (S:SR Hs H0 H (some v::vs) (some d::ds)) (t:d.tag ≠ .b) (n:noB ds) {i k:Nat} {xs:List D} (e:ds[i]?=some (some (.lst .o xs))) (hk:k < xs.length) :
    ∃ p us,vs[i]?=some (some (.ref p))/\H p=some (.lst us)/\us.length=xs.length/\SR Hs H0 (upd H p (.lst (us.set k v))) vs (ds.set i (some (.lst .o (xs.set k d)))):=by
 obtain ⟨Hf,fp,O,F⟩:=S
 cases O with
 | brw z h r=>exact absurd z t
 | cons h r =>
  rename_i f0 f1
  obtain ⟨p,fpx,fpr,e',q,pm,w⟩:=r.write n (List.nodup_append.mp F.nd).2.1 e rfl
  cases q with
  | lst q R =>
   rename_i us
   have pm':(f0 ++ f1).Perm (p::(f0 ++ fpx) ++ fpr):=by
    refine (List.Perm.append_left f0 pm).trans ?_
    rw [List.cons_append,List.cons_append]
    refine List.perm_middle.trans (List.Perm.cons p ?_)
    rw [List.append_assoc]
   have F':=F.perm pm'.symm
   have hpn:p ∉ (f0 ++ fpx) ++ fpr:=by
    have:=F'.nd
    rw [List.cons_append] at this
    exact (List.nodup_cons.mp this).1
   have hp:p ∈ f0 ++ f1:=pm'.symm.subset (by simp)
   have kp:∀ (l:List Addr),(∀ a ∈ l,a ∈ (f0 ++ fpx) ++ fpr)->∀ a o,a ∈ l->H a=some o->upd H p (.lst (us.set k v)) a=some o:=fun l hl a o m z =>
    fU (fun y=>by subst y;exact hpn (hl a m)) z
   obtain ⟨fq,f2,R',p2,s2⟩:=RepOs.put (h.keep (Same.refl _) (kp f0 fun a m=>by simp [m])) (R.keep (Same.refl _) (kp fpx fun a m=>by simp [m])) hk
   obtain ⟨fp',O',p'⟩:=w (upd H p (.lst (us.set k v))) (.lst .o (xs.set k d)) (p::fq) (kp fpr fun a m=>by simp [m]) (.lst bC R')
   have sub:((p::fq) ++ fpr).Perm ((p::(f0 ++ f2)) ++ fpr):=List.Perm.append_right _ (List.Perm.cons p p2)
   have sl:((p::(f0 ++ f2)) ++ fpr).Sublist (p::(f0 ++ fpx) ++ fpr):=by
    rw [List.cons_append,List.cons_append]
    exact List.Sublist.cons_cons p (List.Sublist.append_right (List.Sublist.append_left s2 _) _)
   have F2:=(F'.subl sl).perm (p'.trans sub)
   exact ⟨p,us,e',q,R.length,Hf,fp',O',F.wrote hp F2.nd F2.own⟩
end
end Mi
namespace Mi
open PySem PySem.Spec L2
open PyProof.Rows hiding St
inductive Res (α:Type) where
 | ok (a:α) | exc (C:Value) | bad
noncomputable abbrev ae:=List (Option D)
namespace Res
noncomputable def bind {α β:Type}:Res α->(α->Res β)->Res β
 | .ok a,f=>f a
 | .exc C,_=>.exc C
 | .bad,_=>.bad
noncomputable instance:Monad Res where
 pure:=.ok
 bind:=Res.bind
end Res
noncomputable def Post {α:Type} (Ex:Value->Prop) (r:Res α) (k:α->Prop):Prop:=
 match r with
 | .ok a=>k a
 | .exc C=>Ex C
 | .bad=>False
theorem Post.bind {α β:Type} {Ex:Value->Prop} {r:Res α} {f:α->Res β} {k:β->Prop} (h:Post Ex (r >>= f) k):Post Ex r fun a=>Post Ex (f a) k:=by
 cases r with
 | ok a=>exact h
 | exc C=>exact h
 | bad=>exact h
theorem Post.imp {α:Type} {Ex:Value->Prop} {r:Res α} {k k':α->Prop} (h:Post Ex r k) (f:∀ a,r=.ok a->k a->k' a):Post Ex r k':=by
 cases r with
 | ok a=>exact f a rfl h
 | exc C=>exact h
 | bad=>exact h
noncomputable def tvs (ts:List (V × D)):List (Option V):=ts.map fun t=>some t.1
noncomputable def tds (ts:List (V × D)):List (Option D):=ts.map fun t=>some t.2
theorem kX (ts:List (V × D)):(tvs ts).length=ts.length:=by simp [tvs]
theorem kY (ts:List (V × D)):(tds ts).length=ts.length:=by simp [tds]
noncomputable def SX (Hs H0 H:Hp) (ts:List (V × D)) (σ:St) (ρ:ae):Prop:=SR Hs H0 H (tvs ts ++ σ) (tds ts ++ ρ)
noncomputable def TEF (H0:Hp) (Ex:Value->Prop) (f:ae->Res D):TE:=fun σ H Q=>∃ Hs ρ ts,SX Hs H0 H ts σ ρ ∧
 Post Ex (f ρ) fun d=>∀ v H',SX Hs H0 H' ((v,d)::ts) σ ρ->Q v H'
noncomputable def TTF (H0:Hp) (Ex:Value->Prop) (f:ae->Res Bool):TT:=fun σ H Q=>∃ Hs ρ ts,SX Hs H0 H ts σ ρ ∧
 Post Ex (f ρ) fun b=>∀ H',SX Hs H0 H' ts σ ρ->Q b H'
noncomputable def held (us:List V) (es:List D) (ts:List (V × D)):List (V × D):=(us.zip es).reverse ++ ts
noncomputable def TAF (H0:Hp) (Ex:Value->Prop) (f:ae->Res (List D)):TA:=fun σ H Q=>∃ Hs ρ ts,SX Hs H0 H ts σ ρ ∧
 Post Ex (f ρ) fun es=>∀ us H',us.length=es.length->SX Hs H0 H' (held us es ts) σ ρ->Q us H'
structure FE (X:Cx) (H0:Hp) (Ex:Value->Prop) (e:Expr) (f:ae->Res D):Prop where
 go:PE X e (TEF H0 Ex f)
structure FT (X:Cx) (H0:Hp) (Ex:Value->Prop) (e:Expr) (f:ae->Res Bool):Prop where
 go:PT X e (TTF H0 Ex f)
structure FA (X:Cx) (H0:Hp) (Ex:Value->Prop) (es:List Expr) (f:ae->Res (List D)):Prop where
 go:PA X es (TAF H0 Ex f)
structure PV (X:Cx) (e:Expr) (i:Nat):Prop where
 go:PE X e (xW i)
theorem mv {X:Cx} (i:Nat) {x:Str} {pos:Pos} (hN:X.N[i]?=some x:=by rfl) (hv:Vis X.env.scope x:=by first | exact Or.inl rfl | exact Or.inr (Or.inl rfl) | exact Or.inr (Or.inr rfl)) (hd:(x == ("__debug__" : Str))=false:=by decide)
    (hcd:(x == ("__classdict__" : Str))=false:=by decide):PV X (.Name x pos) i:=⟨xX hN hv hd hcd⟩
theorem PE.pre {X:Cx} {e:Expr} {t t':TE} (h:PE X e t) (i:∀ σ H Q,t' σ H Q->t σ H Q):PE X e t':=fun pins s σ H Q I q=>h pins s σ H Q I (i σ H Q q)
theorem PT.pre {X:Cx} {e:Expr} {t t':TT} (h:PT X e t) (i:∀ σ H Q,t' σ H Q->t σ H Q):PT X e t':=fun pins s σ H Q I q=>h pins s σ H Q I (i σ H Q q)
theorem PA.pre {X:Cx} {e:List Expr} {t t':TA} (h:PA X e t) (i:∀ σ H Q,t' σ H Q->t σ H Q):PA X e t':=fun pos pins s σ H Q I q=>h pos pins s σ H Q I (i σ H Q q)
theorem PS.pre {X:Cx} {e:Stmt} {t t':TS} (h:PS X e t) (i:∀ D σ H,t' D σ H->t D σ H):PS X e t':=fun pins s σ H D I q=>h pins s σ H D I (i D σ H q)
theorem PSs.pre {X:Cx} {e:List Stmt} {t t':TS} (h:PSs X e t) (i:∀ D σ H,t' D σ H->t D σ H):PSs X e t':=fun pins s σ H D I q=>h pins s σ H D I (i D σ H q)
section
variable {X:Cx} {Ex:Value->Prop} {H0:Hp} {a b c e:Expr} {f g:ae->Res D} {pos:Pos}
noncomputable def aa (i:Nat):ae->Res D:=fun ρ=>match ρ[i]? with
 | some (some d)=>.ok d.rd
 | _=>.bad
theorem lS {α:Type} (l r:List α) (i:Nat):(l ++ r)[l.length + i]?=r[i]?:=by
 rw [List.getElem?_append_right (by omega)]
 congr 1
 omega
theorem ad (i:Nat) {x:Str} (h:PV X (.Name x pos) i):FE X H0 Ex (.Name x pos) (aa i):=by
 refine ⟨PE.pre h.go ?_⟩
 rintro σ H Q ⟨Hs,ρ,ts,S,p⟩
 unfold aa at p
 split at p
 ·rename_i d hd
  have e:(tds ts ++ ρ)[(tds ts).length + i]?=some (some d):=by rw [lS];exact hd
  obtain ⟨v,hv,S'⟩:=SR.get S e
  rw [kY,<- kX,lS] at hv
  exact ⟨v,hv,p v H S'⟩
 ·exact p.elim
noncomputable def fC (d:D):ae->Res D:=fun _=>.ok d
theorem ak {i j}:FE X H0 Ex (.Constant (.int i) j pos) (fC (.int i)):=by
 refine ⟨PE.pre xY ?_⟩
 rintro σ H Q ⟨Hs,ρ,ts,S,p⟩
 exact p _ H S.int
theorem kZ {i j}:FE X H0 Ex (.Constant (.bool i) j pos) (fC (.bl i)):=by
 refine ⟨PE.pre wo ?_⟩
 rintro σ H Q ⟨Hs,ρ,ts,S,p⟩
 exact p _ H S.bl
theorem dL {j}:FE X H0 Ex (.Constant .none j pos) (fC .non):=by
 refine ⟨PE.pre xZ ?_⟩
 rintro σ H Q ⟨Hs,ρ,ts,S,p⟩
 exact p _ H S.non
theorem eY {x j}:FE X H0 Ex (.Constant (.str x) j pos) (fC (.str x)):=by
 refine ⟨PE.pre sR ?_⟩
 rintro σ H Q ⟨Hs,ρ,ts,S,p⟩
 exact p _ H S.str
theorem nA {x:Str} {i:Int} {u:Value} (hg:Gl X x) (hm:X.mg x=some u) (r:RelV (.int i) u) (hd:(x == ("__debug__" : Str))=false:=by decide):FE X H0 Ex (.Name x pos) (fC (.int i)):=by
 refine ⟨PE.pre (wI hg hm r hd) ?_⟩
 rintro σ H Q ⟨Hs,ρ,ts,S,p⟩
 exact p _ H S.int
structure FOp (X:Cx) (f:Value->Value->Sem Value) (g:D->D->Res D):Prop where
 go:OpR X f fun x y H Q=>∃ Hs H0 vs ds d1 d2 d,
 SR Hs H0 H (some y::some x::vs) (some d2::some d1::ds)/\g d1 d2=.ok d/\∀ v H',SR Hs H0 H' (some v::vs) (some d::ds)->Q v H'
theorem OpR.pre {f:Value->Value->Sem Value} {r r':R2} (h:OpR X f r) (i:∀ x y H Q,r' x y H Q->r x y H Q):OpR X f r':=fun pins s σ H x y v u Q I a b q=>h pins s σ H x y v u Q I a b (i x y H Q q)
noncomputable def noX {α:Type}:Res α->Bool
 | .exc _=>false
 | _=>true
noncomputable def f2 (g:D->D->Res D) (fa fb:ae->Res D):ae->Res D:=fun ρ=>fa ρ >>= fun x=>fb ρ >>= fun y=>g x y
theorem o3 {H0:Hp} {g:D->D->Res D} (hg:∀ x y,noX (g x y)=true) {op:Value->Value->Sem Value} {σ:St} {H:Hp} {Q:VK} {fa fb:ae->Res D} (h:TEF H0 Ex (f2 g fa fb) σ H Q) :
    tOp (fun x y H Q=>∃ Hs H0 vs ds d1 d2 d,SR Hs H0 H (some y::some x::vs) (some d2::some d1::ds)/\g d1 d2=.ok d/\∀ v H',SR Hs H0 H' (some v::vs) (some d::ds)->Q v H') (TEF H0 Ex fa) (TEF H0 Ex fb) σ H Q:=by
 obtain ⟨Hs,ρ,ts,S,p⟩:=h
 refine ⟨Hs,ρ,ts,S,(Post.bind p).imp fun d1 _ p1 v1 H1 S1=>⟨Hs,ρ,(v1,d1)::ts,S1,(Post.bind p1).imp fun d2 _ p2 v2 H2 S2=>?_⟩⟩
 have hn:=hg d1 d2
 cases e:g d1 d2 with
 | ok d=>rw [e] at p2;exact ⟨Hs,H0,_,_,d1,d2,d,S2,e,p2⟩
 | exc C=>rw [e] at hn;cases hn
 | bad=>rw [e] at p2;exact p2.elim
theorem aM {op:Operator} {g:D->D->Res D} {fa fb:ae->Res D} (ho:FOp X (binaryOp op) g) (hg:∀ x y,noX (g x y)=true) (ha:FE X H0 Ex a fa) (hb:FE X H0 Ex b fb):FE X H0 Ex (.BinOp a op b pos) (f2 g fa fb):=
 ⟨PE.pre (zQ ho.go ha.go hb.go) fun _ _ _ h=>o3 hg (op:=binaryOp op) h⟩
theorem iF {op:CmpOp} {g:D->D->Res D} {fa fb:ae->Res D} (ho:FOp X (compareOp op) g) (hg:∀ x y,noX (g x y)=true) (ha:FE X H0 Ex a fa) (hb:FE X H0 Ex b fb) (hm:behindInMarks op b=false):FE X H0 Ex (.Compare a [op] [b] pos) (f2 g fa fb):=
 ⟨PE.pre (wQ ho.go ha.go hb.go hm) fun _ _ _ h=>o3 hg (op:=compareOp op) h⟩
theorem SR.isInt {Hs H0 H:Hp} {vs:List (Option V)} {ds:List (Option D)} {v:V} {i:Int} (S:SR Hs H0 H (some v::vs) (some (.int i)::ds)):v=.int i:=by
 cases S.head;rfl
theorem SR.isBl {Hs H0 H:Hp} {vs:List (Option V)} {ds:List (Option D)} {v:V} {i:Bool} (S:SR Hs H0 H (some v::vs) (some (.bl i)::ds)):v=.bl i:=by
 cases S.head;rfl
theorem SR.isStr {Hs H0 H:Hp} {vs:List (Option V)} {ds:List (Option D)} {v:V} {i:Str} (S:SR Hs H0 H (some v::vs) (some (.str i)::ds)):v=.str i:=by
 cases S.head;rfl
noncomputable def gI (C:Int->Int->Bool) (g:Int->Int->D):D->D->Res D:=fun x y=>match x,y with
 | .int i,.int j=>if C i j then .ok (g i j) else .bad
 | _,_=>.bad
theorem aS (C:Int->Int->Bool) (g:Int->Int->D):∀ x y,noX (gI C g x y)=true:=by
 intro x y
 unfold gI
 split
 ·split <;> rfl
 ·rfl
theorem nC {f:Value->Value->Sem Value} {C:Int->Int->Prop} {C':Int->Int->Bool} {g:Int->Int->Int} (h:OpR X f (rI C fun i j=>.int (g i j))) (hc:∀ i j,C' i j=true->C i j):FOp X f (gI C' fun i j=>.int (g i j)):=by
 refine ⟨OpR.pre h ?_⟩
 rintro x y H Q ⟨Hs,H0,vs,ds,d1,d2,d,S,e,k⟩
 unfold gI at e
 split at e
 ·rename_i i j
  split at e
  ·rename_i hcc
   cases e
   cases SR.isInt S
   cases SR.isInt S.drop
   exact ⟨i,j,rfl,rfl,hc i j hcc,k _ H S.drop.drop.int⟩
  ·cases e
 ·cases e
theorem vp {f:Value->Value->Sem Value} {g:Int->Int->Int} (h:OpR X f (rI0 fun i j=>.int (g i j))):FOp X f (gI (fun _ _=>true) fun i j=>.int (g i j)):=by
 refine ⟨OpR.pre h ?_⟩
 rintro x y H Q ⟨Hs,H0,vs,ds,d1,d2,d,S,e,k⟩
 unfold gI at e
 split at e
 ·rename_i i j
  cases e
  cases SR.isInt S
  cases SR.isInt S.drop
  exact ⟨i,j,rfl,rfl,k _ H S.drop.drop.int⟩
 ·cases e
theorem jE {f:Value->Value->Sem Value} {g:Int->Int->Bool} (h:OpR X f (rI0 fun i j=>.bl (g i j))):FOp X f (gI (fun _ _=>true) fun i j=>.bl (g i j)):=by
 refine ⟨OpR.pre h ?_⟩
 rintro x y H Q ⟨Hs,H0,vs,ds,d1,d2,d,S,e,k⟩
 unfold gI at e
 split at e
 ·rename_i i j
  cases e
  cases SR.isInt S
  cases SR.isInt S.drop
  exact ⟨i,j,rfl,rfl,k _ H S.drop.drop.bl⟩
 ·cases e
noncomputable def dR:=gI (fun _ _=>true) fun i j=>.int (i - j)
noncomputable def dE:=gI (fun i j=>(decide (-(2 ^ 64) < i) && decide (i < 2 ^ 64)) || (decide (-(2 ^ 64) < j) && decide (j < 2 ^ 64))) fun i j=>.int (i * j)
noncomputable def ml:=gI (fun _ j=>decide (0 < j) && decide (j < 1073741824)) fun i j=>.int (i / j)
noncomputable def cX:=gI (fun _ j=>decide (0 < j)) fun i j=>.int (i % j)
noncomputable def dLt:=gI (fun _ _=>true) fun i j=>.bl (decide (i < j))
noncomputable def dLe:=gI (fun _ _=>true) fun i j=>.bl (decide (i <= j))
noncomputable def dGt:=gI (fun _ _=>true) fun i j=>.bl (decide (j < i))
noncomputable def dGe:=gI (fun _ _=>true) fun i j=>.bl (decide (j <= i))
theorem gk:FOp X (binaryOp .Sub) dR:=vp yo
theorem gd:FOp X (binaryOp .Mult) dE:=nC yp fun i j h=>by
 simp at h
 exact h
theorem qX:FOp X (binaryOp .FloorDiv) ml:=nC wO fun i j h=>by
 simp at h
 exact h
theorem eZ:FOp X (binaryOp .Mod) cX:=nC yq fun i j h=>by
 simp at h
 exact h
theorem mm:FOp X (compareOp .Lt) dLt:=jE kS
theorem rT:FOp X (compareOp .LtE) dLe:=jE fP
theorem k6:FOp X (compareOp .Gt) dGt:=jE zU
theorem Ab:FOp X (compareOp .GtE) dGe:=jE zV
theorem SR.laidL {Hs H0 H Hf:Hp} {fp:List Addr} {vs:List (Option V)} {ds:List (Option D)} (O:Own Hf H fp vs ds) (F:Fine Hs H0 Hf H fp) {us:List V} {es:List D} (R:Reps Hf us es) (ht:∀ e ∈ es,e.tag=.f) {p:Addr} (hp:H p=none) :
    SR Hs H0 (upd H p (.lst us)) (some (.ref p)::vs) (some (.lst .o es)::ds):=by
 obtain ⟨hf,h0⟩:=F.fresh hp
 have s:Same H (upd H p (.lst us)):=fun b o e=>by rw [aZ (bB e hp)];exact e
 refine ⟨Hf,[p] ++ fp,.cons (.lst bC (RepOs.ofReps R ht)) (O.mono (Same.refl _) s),?_,?_,F.fh.trans s,F.zh.trans s,F.sf,F.new⟩
 ·refine List.nodup_cons.mpr ⟨fun m=>?_,F.nd⟩
  obtain ⟨o,e⟩:=O.there p m;rw [hp] at e;cases e
 ·intro a m
  rcases List.mem_cons.mp m with e | m
  ·subst e;exact ⟨hf,h0⟩
  ·exact F.own a m
noncomputable def aP:D->D->Res D:=fun x y=>match x,y with
 | .int i,.int j=>.ok (.int (i + j))
 | .str i,.str j=>if i.length + j.length <= sizeLine then .ok (.str (i ++ j)) else .bad
 | .lst t xs,.lst u ys=>match D.its (.lst t xs),D.its (.lst u ys) with
  | some xs',some ys'=>if xs'.length + ys'.length <= sizeLine then .ok (.lst .o (xs' ++ ys')) else .bad
  | _,_=>.bad
 | _,_=>.bad
theorem aY:∀ x y,noX (aP x y)=true:=by
 intro x y
 unfold aP
 split
 ·rfl
 ·split <;> rfl
 ·split
  ·split <;> rfl
  ·rfl
 ·rfl
theorem br:FOp X (binaryOp .Add) aP:=by
 refine ⟨OpR.pre (OpR.or yn (OpR.or rM yH)) ?_⟩
 rintro x y H Q ⟨Hs,H0,vs,ds,d1,d2,d,S,e,k⟩
 unfold aP at e
 split at e
 ·rename_i i j
  cases e
  cases SR.isInt S
  cases SR.isInt S.drop
  exact .inl ⟨i,j,rfl,rfl,k _ H S.drop.drop.int⟩
 ·rename_i i j
  split at e
  ·rename_i hl
   cases e
   cases SR.isStr S
   cases SR.isStr S.drop
   exact .inr (.inl ⟨i,j,rfl,rfl,hl,k _ H S.drop.drop.str⟩)
  ·cases e
 ·rename_i t xs u ys
  split at e
  ·rename_i xs' ys' hx hy
   split at e
   ·rename_i hl
    cases e
    obtain ⟨Hf,fp,O,F⟩:=S
    obtain ⟨a2,us2,rfl,e2,Hg,fq,O1,F1,s1,R2⟩:=O.items F hy
    obtain ⟨a1,us1,rfl,e1,Hk,fr,O2,F2,s2,R1⟩:=O1.items F1 hx
    refine .inr (.inr ⟨a1,a2,us1,us2,rfl,rfl,e1,e2,by rw [R1.length,R2.length];exact hl,fun p hp=>k _ _ ?_⟩)
    exact SR.laidL O2 F2 (R1.append (R2.mono s2)) (fun z m=>(List.mem_append.mp m).elim (D.its_tag hx z) (D.its_tag hy z)) hp
   ·cases e
  ·cases e
 ·cases e
structure FIx (X:Cx) (g:D->D->Res D):Prop where
 go:IxR X fun x y H Q=>∃ Hs H0 vs ds d1 d2 d,
 SR Hs H0 H (some y::some x::vs) (some d2::some d1::ds)/\g d1 d2=.ok d/\∀ v H',SR Hs H0 H' (some v::vs) (some d::ds)->Q v H'
theorem w6 {g:D->D->Res D} {fa fb:ae->Res D} (ho:FIx X g) (hg:∀ x y,noX (g x y)=true) (ha:FE X H0 Ex a fa) (hb:FE X H0 Ex b fb) (hs:nw b):FE X H0 Ex (.Subscript a b pos) (f2 g fa fb):=
 ⟨PE.pre (z7 ho.go ha.go hb.go hs) fun _ _ _ h=>o3 hg (op:=fun _ _=>pure .none) h⟩
theorem IxR.pre {r r':R2} (h:IxR X r) (i:∀ x y H Q,r' x y H Q->r x y H Q):IxR X r':=fun v sl pins s σ H x y a u Q I p q w z=>h v sl pins s σ H x y a u Q I p q (i x y H Q w) z
noncomputable def bE {α:Type}:Option α->Res α
 | some a=>.ok a
 | none=>.bad
noncomputable def dIx:D->D->Res D:=fun x y=>match x,y with
 | .lst t xs,.int i=>match ixN xs.length i with
  | some j=>bE (D.el (.lst t xs) j)
  | none=>.bad
 | .tup xs,.int i=>match ixN xs.length i with
  | some j=>bE (D.el (.tup xs) j)
  | none=>.bad
 | .str z,.int i=>match atI z.cps.toList i with
  | some c=>if z.length <= sizeLine then .ok (.str ⟨#[c]⟩) else .bad
  | none=>.bad
 | .scr ns,.int i=>match atI ns i with
  | some c=>.ok (.int c)
  | none=>.bad
 | _,_=>.bad
theorem oh {α:Type} (o:Option α):noX (bE o)=true:=by cases o <;> rfl
theorem pv {α:Type} {o:Option α} {a:α} (h:bE o=.ok a):o=some a:=by
 cases o with
 | some b=>cases h;rfl
 | none=>cases h
theorem w8:∀ x y,noX (dIx x y)=true:=by
 intro x y
 unfold dIx
 split
 ·split
  ·exact oh _
  ·rfl
 ·split
  ·exact oh _
  ·rfl
 ·split
  ·split <;> rfl
  ·rfl
 ·split <;> rfl
 ·rfl
theorem tG {α:Type} {xs:List α} {i:Int} {j:Nat} {v:α} (h:ixN xs.length i=some j) (e:xs[j]?=some v):atI xs i=some v:=by
 unfold atI
 rw [h]
 exact e
theorem yM:FIx X dIx:=by
 refine ⟨IxR.pre yE ?_⟩
 rintro x y H Q ⟨Hs,H0,vs,ds,d1,d2,d,S,e,k⟩
 unfold dIx at e
 split at e
 ·rename_i t xs i
  cases SR.isInt S
  split at e
  ·rename_i j hj
   have he:=pv e
   obtain ⟨a,us,u,rfl,h1,h2,S'⟩:=S.drop.elem he
   have hl:us.length=xs.length:=by
    have:=S.drop.head
    cases this with
    | lst q R =>
     have h1':H a=some (.lst us):=h1
     rw [h1'] at q;cases q
     exact R.length
   exact .inl ⟨a,us,i,u,rfl,rfl,SqL.of h1,tG (by rw [hl];exact hj) h2,k _ H S'⟩
  ·cases e
 ·rename_i xs i
  cases SR.isInt S
  split at e
  ·rename_i j hj
   have he:=pv e
   obtain ⟨a,us,u,rfl,h1,h2,S'⟩:=S.drop.elem he
   have hl:us.length=xs.length:=by
    have:=S.drop.head
    cases this with
    | tup q R =>
     have h1':H a=some (.tup us):=h1
     rw [h1'] at q;cases q
     exact R.length
   exact .inr (.inl ⟨a,us,i,u,rfl,rfl,SqT.of h1,tG (by rw [hl];exact hj) h2,k _ H S'⟩)
  ·cases e
 ·rename_i z i
  cases SR.isInt S
  split at e
  ·rename_i c hc
   split at e
   ·rename_i hz
    cases e
    cases SR.isStr S.drop
    exact .inr (.inr ⟨z,i,c,rfl,rfl,hz,hc,k _ H S.drop.drop.str⟩)
   ·cases e
  ·cases e
 ·rename_i ns i
  cases SR.isInt S
  split at e
  ·rename_i c hc
   cases e
   have:=S.drop.head
   cases this with
   | scr q =>
    refine .inl ⟨_,_,i,.int c,rfl,rfl,.inl (.inr ⟨_,q⟩),?_,k _ H S.drop.drop.int⟩
    obtain ⟨j,h1,h2,_⟩:=kU hc
    unfold atI at hc ⊢
    rw [List.length_map]
    cases hj:ixN ns.length i with
    | none=>rw [hj] at hc;cases hc
    | some j =>
     rw [hj] at hc
     have hc:ns[j]?=some c:=hc
     show (ns.map V.int)[j]?=some (V.int c)
     rw [List.getElem?_map,hc]
     rfl
  ·cases e
 ·cases e
theorem aF {fa fb:ae->Res D} (ha:FE X H0 Ex a fa) (hb:FE X H0 Ex b fb) (hs:nw b:=by intro _ _;rfl):FE X H0 Ex (.Subscript a b pos) (f2 dIx fa fb):=w6 yM w8 ha hb hs
theorem vq {us:List V} {es:List D} {ts:List (V × D)} (h:us.length=es.length):tvs (held us es ts)=hv us ++ tvs ts:=by
 have:(us.zip es).map (fun t=>some t.1)=us.map some:=by
  induction us generalizing es with
  | nil=>rfl
  | cons u us ih =>
   cases es with
   | nil=>simp at h
   | cons e es=>simp [ih (es:=es) (by simpa using h)]
 simp [tvs,held,hv,<- this]
theorem vt {us:List V} {es:List D} {ts:List (V × D)} (h:us.length=es.length):tds (held us es ts)=hd es ++ tds ts:=by
 have:(us.zip es).map (fun t=>some t.2)=es.map some:=by
  induction us generalizing es with
  | nil =>
   cases es with
   | nil=>rfl
   | cons e es=>simp at h
  | cons u us ih =>
   cases es with
   | nil=>simp at h
   | cons e es=>simp [ih (es:=es) (by simpa using h)]
 simp [tds,held,hd,<- this]
theorem SX.held {Hs H0 H:Hp} {us:List V} {es:List D} {ts:List (V × D)} {σ:St} {ρ:ae} (h:us.length=es.length) (S:SX Hs H0 H (held us es ts) σ ρ):SR Hs H0 H (hv us ++ (tvs ts ++ σ)) (hd es ++ (tds ts ++ ρ)):=by
 unfold SX at S
 rw [vq h,vt h,List.append_assoc,List.append_assoc] at S
 exact S
noncomputable def af:ae->Res (List D):=fun _=>.ok []
noncomputable def ac (f:ae->Res D) (g:ae->Res (List D)):ae->Res (List D):=fun ρ=>f ρ >>= fun d=>g ρ >>= fun ds=>.ok (d::ds)
theorem ai:FA X H0 Ex [] af:=by
 refine ⟨PA.pre eG ?_⟩
 rintro σ H Q ⟨Hs,ρ,ts,S,p⟩
 exact p [] H rfl S
theorem ag {es:List Expr} {fe:ae->Res D} {fs:ae->Res (List D)} (he:FE X H0 Ex e fe) (hr:FA X H0 Ex es fs) (hs:starEach (e::es) X.env=(false,eval e X.env)::starEach es X.env:=by rfl):FA X H0 Ex (e::es) (ac fe fs):=by
 refine ⟨PA.pre (dw he.go hr.go hs) ?_⟩
 rintro σ H Q ⟨Hs,ρ,ts,S,p⟩
 refine ⟨Hs,ρ,ts,S,(Post.bind p).imp fun d _ p1 v H1 S1=>⟨Hs,ρ,(v,d)::ts,S1,(Post.bind p1).imp fun ds _ p2 us H2 hl S2=>?_⟩⟩
 refine p2 (v::us) H2 (by simp [hl]) ?_
 have:held (v::us) (d::ds) ts=held us ds ((v,d)::ts):=by simp [held]
 rw [this]
 exact S2
noncomputable def nb (es:List D):Bool:=es.all fun e=>!(e.tag == .b)
theorem mn {es:List D} (h:nb es=true):∀ e ∈ es,e.tag ≠ .b:=fun e m=>by
 have:=List.all_eq_true.mp h e m
 simpa using this
noncomputable def bd (fa:ae->Res (List D)):ae->Res D:=fun ρ=>fa ρ >>= fun es=>if nb es && decide (es.length <= sizeLine) then .ok (.lst .o es) else .bad
noncomputable def bj (fa:ae->Res (List D)):ae->Res D:=fun ρ=>fa ρ >>= fun es=>if nb es && decide (es.length <= sizeLine) then .ok (.tup (D.fzs es)) else .bad
theorem dy {es:List Expr} {fa:ae->Res (List D)} (h:FA X H0 Ex es fa):FE X H0 Ex (.List es pos) (bd fa):=by
 refine ⟨PE.pre (yy h.go) ?_⟩
 rintro σ H Q ⟨Hs,ρ,ts,S,p⟩
 refine ⟨Hs,ρ,ts,S,(Post.bind p).imp fun ds _ p1 us H1 hl S1=>?_⟩
 split at p1
 ·rename_i hc
  simp at hc
  exact ⟨by rw [hl];exact hc.2,fun q hq=>p1 _ _ ((SX.held hl S1).mkList hl (mn hc.1) hq)⟩
 ·exact p1.elim
theorem dz {es:List Expr} {fa:ae->Res (List D)} {x1} (h:FA X H0 Ex es fa):FE X H0 Ex (.Tuple es x1 pos) (bj fa):=by
 refine ⟨PE.pre (yx h.go) ?_⟩
 rintro σ H Q ⟨Hs,ρ,ts,S,p⟩
 refine ⟨Hs,ρ,ts,S,(Post.bind p).imp fun ds _ p1 us H1 hl S1=>?_⟩
 split at p1
 ·rename_i hc
  simp at hc
  exact ⟨by rw [hl];exact hc.2,fun q hq=>p1 _ _ ((SX.held hl S1).mkTup hl (mn hc.1) hq)⟩
 ·exact p1.elim
structure FCall (X:Cx) (f:Value) (g:List D->Res D):Prop where
 go:CallR X f fun us H Q=>∃ Hs H0 vs ds es d,us.length=es.length ∧
 SR Hs H0 H (hv us ++ vs) (hd es ++ ds)/\g es=.ok d/\∀ v H',SR Hs H0 H' (some v::vs) (some d::ds)->Q v H'
theorem CallR.pre {f:Value} {r r':List V->Hp->VK->Prop} (h:CallR X f r) (i:∀ x H Q,r' x H Q->r x H Q):CallR X f r':=fun pins s σ H x y Q I a q=>h pins s σ H x y Q I a (i x H Q q)
noncomputable def fCB (g:List D->Res D) (fa:ae->Res (List D)):ae->Res D:=fun ρ=>fa ρ >>= g
theorem tH {H0:Hp} {g:List D->Res D} {fa:ae->Res (List D)} (hg:∀ es,noX (g es)=true) {σ:St} {H:Hp} {Q:VK} (h:TEF H0 Ex (fCB g fa) σ H Q) :
    tCB (fun us H Q=>∃ Hs H0 vs ds es d,us.length=es.length/\SR Hs H0 H (hv us ++ vs) (hd es ++ ds)/\g es=.ok d/\∀ v H',SR Hs H0 H' (some v::vs) (some d::ds)->Q v H') (TAF H0 Ex fa) σ H Q:=by
 obtain ⟨Hs,ρ,ts,S,p⟩:=h
 refine ⟨Hs,ρ,ts,S,(Post.bind p).imp fun es _ p1 us H1 hl S1=>?_⟩
 have hn:=hg es
 cases e:g es with
 | ok d=>rw [e] at p1;exact ⟨Hs,H0,_,_,es,d,hl,SX.held hl S1,e,p1⟩
 | exc C=>rw [e] at hn;cases hn
 | bad=>rw [e] at p1;exact p1.elim
theorem aQ {id:String} {x:Str} {p:Pos} {es:List Expr} {g:List D->Res D} {fa:ae->Res (List D)} (hc:FCall X (.builtin id) g) (hn:∀ es,noX (g es)=true) (hg:Gl X x) (hm:X.mg x=none) (hv:bootBuiltins x=some (.builtin id)) (ha:FA X H0 Ex (e::es) fa)
    (hn':x ≠ "__name__" := by decide) (hdb:(x == ("__debug__" : Str))=false:=by decide) (h1:starEach (e::es) X.env=(false,eval e X.env)::starEach es X.env:=by rfl) (h2:(backTo pos (starEach es X.env)).any (·.1)=false:=by rfl):FE X H0 Ex (.Call (.Name x p) (e::es) [] pos) (fCB g fa):=
 ⟨PE.pre (lR hc.go hg hm hv ha.go hn' hdb h1 h2) fun _ _ _ h=>tH hn h⟩
end
end Mi
namespace Mi
open PySem PySem.Spec L2
open PyProof.Rows hiding St
inductive FOut where
 | nx (ρ:ae) | rt (d:D) | bk (ρ:ae) | ct (ρ:ae) | exc (C:Value) | bad
noncomputable def SS (Hs H0 H:Hp) (σ:St) (ρ:ae):Prop:=SR Hs H0 H σ ρ/\noB ρ
noncomputable def PostS (Hs H0:Hp) (Ex:Value->Prop) (D:Ends) (r:FOut):Prop:=
 match r with
 | .nx ρ=>∀ σ H,SS Hs H0 H σ ρ->D.nx σ H
 | .rt d=>∀ v H,SR Hs H0 H [some v] [some d]->D.rt v H
 | .bk ρ=>∀ σ H,SS Hs H0 H σ ρ->D.bk σ H
 | .ct ρ=>∀ σ H,SS Hs H0 H σ ρ->D.ct σ H
 | .exc C=>Ex C
 | .bad=>False
noncomputable def TSF (H0:Hp) (Ex:Value->Prop) (g:ae->FOut):TS:=fun D σ H=>∃ Hs ρ,SS Hs H0 H σ ρ/\PostS Hs H0 Ex D (g ρ)
structure FS (X:Cx) (H0:Hp) (Ex:Value->Prop) (st:Stmt) (g:ae->FOut):Prop where
 go:PS X st (TSF H0 Ex g)
structure FSs (X:Cx) (H0:Hp) (Ex:Value->Prop) (st:List Stmt) (g:ae->FOut):Prop where
 go:PSs X st (TSF H0 Ex g)
noncomputable def aft {α:Type} (r:Res α) (k:α->FOut):FOut:=
 match r with
 | .ok a=>k a
 | .exc C=>.exc C
 | .bad=>.bad
theorem PostS.aft {α:Type} {Hs H0:Hp} {Ex:Value->Prop} {D:Ends} {r:Res α} {k:α->FOut} (h:PostS Hs H0 Ex D (aft r k)):Post Ex r fun a=>PostS Hs H0 Ex D (k a):=by
 cases r with
 | ok a=>exact h
 | exc C=>exact h
 | bad=>exact h
section
variable {X:Cx} {Ex:Value->Prop} {H0:Hp} {e:Expr} {f:ae->Res D} {g g1 g2:ae->FOut} {pos:Pos} {st:Stmt} {sts:List Stmt}
noncomputable def aC:ae->FOut:=fun ρ=>.nx ρ
noncomputable def ao (g1 g2:ae->FOut):ae->FOut:=fun ρ=>match g1 ρ with
 | .nx ρ'=>g2 ρ'
 | r=>r
theorem aX:FSs X H0 Ex [] aC:=⟨PSs.pre wL fun D σ H ⟨Hs,ρ,S,p⟩=>p σ H S⟩
theorem w9 {H0:Hp} {D:Ends} {σ:St} {H:Hp} (h:TSF H0 Ex (ao g1 g2) D σ H):yg (TSF H0 Ex g1) (TSF H0 Ex g2) D σ H:=by
 obtain ⟨Hs,ρ,S,p⟩:=h
 refine ⟨Hs,ρ,S,?_⟩
 unfold ao at p
 cases e:g1 ρ with
 | nx ρ'=>rw [e] at p;exact fun σ' H' S'=>⟨Hs,ρ',S',p⟩
 | rt d=>rw [e] at p;exact p
 | bk ρ'=>rw [e] at p;exact p
 | ct ρ'=>rw [e] at p;exact p
 | exc C=>rw [e] at p;exact p
 | bad=>rw [e] at p;exact p
theorem ah (h1:FS X H0 Ex st g1) (h2:FSs X H0 Ex sts g2):FSs X H0 Ex (st::sts) (ao g1 g2):=⟨PSs.pre (uX h1.go h2.go) fun _ _ _ h=>w9 h⟩
theorem ar (h1:FS X H0 Ex st g1):FSs X H0 Ex [st] g1:=⟨wM h1.go⟩
noncomputable def ej (f:ae->Res D):ae->FOut:=fun ρ=>aft (f ρ) fun _=>.nx ρ
theorem iu (he:FE X H0 Ex e f) (hs:swapsWith e none pos.line X.env=pure false:=by rfl):FS X H0 Ex (.Expr e pos) (ej f):=by
 refine ⟨PS.pre (kR he.go hs) ?_⟩
 rintro D σ H ⟨Hs,ρ,⟨S,n⟩,p⟩
 exact ⟨Hs,ρ,[],S,(PostS.aft p).imp fun d _ p1 v H1 S1=>p1 σ H1 ⟨S1.drop,n⟩⟩
noncomputable def aK (f:ae->Res D):ae->FOut:=fun ρ=>aft (f ρ) fun d=>if d.tag=.b then .bad else .rt d
theorem aU (he:FE X H0 Ex e f):FS X H0 Ex (.Return (some e) pos) (aK f):=by
 refine ⟨PS.pre (sS he.go) ?_⟩
 rintro D σ H ⟨Hs,ρ,⟨S,n⟩,p⟩
 refine ⟨Hs,ρ,[],S,(PostS.aft p).imp fun d _ p1 v H1 S1=>?_⟩
 split at p1
 ·exact p1.elim
 ·exact p1 v H1 (SR.only (vs':=[]) (ds':=[]) S1)
noncomputable def jF (i:Nat):ae->FOut:=fun ρ=>match ρ[i]? with
 | some (some d)=>.rt d
 | _=>.bad
theorem nD (i:Nat) {x:Str} {p':Pos} (h:PV X (.Name x p') i):FS X H0 Ex (.Return (some (.Name x p')) pos) (jF i):=by
 refine ⟨PS.pre (sS h.go) ?_⟩
 rintro D σ H ⟨Hs,ρ,⟨S,n⟩,p⟩
 unfold jF at p
 split at p
 ·rename_i d hd
  obtain ⟨v,hv,S'⟩:=S.move hd (n d (List.mem_of_getElem? hd))
  exact ⟨v,hv,p v H (SR.only (vs':=[]) (ds':=[]) S')⟩
 ·exact p.elim
noncomputable def gIf (t:ae->Res Bool) (g1 g2:ae->FOut):ae->FOut:=fun ρ=>aft (t ρ) fun b=>if b=true then g1 ρ else g2 ρ
theorem bt {c:Expr} {a b:List Stmt} {t:ae->Res Bool} (hc:FT X H0 Ex c t) (ha:FSs X H0 Ex a g1) (hb:FSs X H0 Ex b g2):FS X H0 Ex (.If c a b pos) (gIf t g1 g2):=by
 refine ⟨PS.pre (zN hc.go ha.go hb.go) ?_⟩
 rintro D σ H ⟨Hs,ρ,⟨S,n⟩,p⟩
 refine ⟨Hs,ρ,[],S,(PostS.aft p).imp fun b _ p1 H1 S1=>?_⟩
 cases b with
 | true=>rw [if_pos rfl] at p1 ⊢;exact ⟨Hs,ρ,⟨S1,n⟩,p1⟩
 | false=>rw [if_neg Bool.false_ne_true] at p1 ⊢;exact ⟨Hs,ρ,⟨S1,n⟩,p1⟩
noncomputable def aq (i:Nat) (f:ae->Res D):ae->FOut:=fun ρ=>aft (f ρ) fun d=>if d.tag=.b \/ ρ.length <= i then .bad else .nx (ρ.set i (some d))
theorem SR.set0 {Hs H0 H:Hp} {v:V} {d:D} {σ:St} {ρ:ae} (S:SX Hs H0 H [(v,d)] σ ρ) (t:d.tag ≠ .b) (n:noB ρ) {i:Nat} (hi:i < ρ.length):SS Hs H0 H (σ.set i (some v)) (ρ.set i (some d)):=
 ⟨SR.set S t hi,n.set fun d' e=>by cases e;exact t⟩
theorem xa {H0:Hp} {i:Nat} {D:Ends} {σ:St} {H:Hp} (h:TSF H0 Ex (aq i f) D σ H):u7 (TEF H0 Ex f) (oZ i) D σ H:=by
 obtain ⟨Hs,ρ,⟨S,n⟩,p⟩:=h
 refine ⟨Hs,ρ,[],S,(PostS.aft p).imp fun d _ p1 v H1 S1=>?_⟩
 split at p1
 ·exact p1.elim
 ·rename_i hc
  exact p1 _ H1 (SR.set0 S1 (fun z=>hc (.inl z)) n (by omega))
theorem aG {i:Nat} {x:Str} {pos':Pos} (hN:X.N.Nodup) (hi:X.N[i]?=some x) (hx:Loc X.env.scope x) (he:FE X H0 Ex e f) (hs:swapsWith e (some (.Name x pos')) pos.line X.env=pure false:=by rfl) (hf:X.fn x=true \/ X.env.scope.names.lookup x=some .local:=by first | exact .inl rfl | exact .inr rfl | assumption) :
    FS X H0 Ex (.Assign [.Name x pos'] e pos) (aq i f):=⟨PS.pre (yi hN hi hx he.go hs hf) fun _ _ _ h=>xa h⟩
noncomputable def fFz (f:ae->Res D):ae->Res D:=fun ρ=>f ρ >>= fun d=>if d.tag=.b then .bad else .ok d.fz
theorem a9 (he:FE X H0 Ex e f):FE X H0 Ex e (fFz f):=by
 refine ⟨PE.pre he.go ?_⟩
 rintro σ H Q ⟨Hs,ρ,ts,S,p⟩
 refine ⟨Hs,ρ,ts,S,(Post.bind p).imp fun d _ p1 v H1 S1=>?_⟩
 split at p1
 ·exact p1.elim
 ·rename_i hc
  exact p1 v H1 (SR.frz S1 hc)
noncomputable def frzAt (i:Nat) (ρ:ae):ae:=match ρ[i]? with
 | some (some d)=>ρ.set i (some d.fz)
 | _=>ρ
theorem SR.frzAt {Hs H0 H:Hp} {σ:St} {ρ:ae} (S:SR Hs H0 H σ ρ) (n:noB ρ) (i:Nat):SS Hs H0 H σ (frzAt i ρ):=by
 unfold Mi.frzAt
 split
 ·rename_i d hd
  obtain ⟨v,hv,S'⟩:=S.move hd (n d (List.mem_of_getElem? hd))
  have S1:=S'.frz (n d (List.mem_of_getElem? hd))
  have hi:i < ρ.length:=(List.getElem?_eq_some_iff.mp hd).1
  have S2:=SR.set S1 (by rw [d.fz_tag];decide) (i:=i) (by simpa using hi)
  rw [List.set_set] at S2
  have hvi:σ.set i (some v)=σ:=by
   obtain ⟨a,b⟩:=List.getElem?_eq_some_iff.mp hv
   rw [<- b];exact List.set_getElem_self a
  rw [hvi] at S2
  exact ⟨S2,n.set fun d' e=>by cases e;rw [d.fz_tag];decide⟩
 ·exact ⟨S,n⟩
theorem mo (i:Nat) (h:FS X H0 Ex st g):FS X H0 Ex st (fun ρ=>g (frzAt i ρ)):=by
 refine ⟨PS.pre h.go ?_⟩
 rintro D σ H ⟨Hs,ρ,⟨S,n⟩,p⟩
 exact ⟨Hs,frzAt i ρ,S.frzAt n i,p⟩
end
end Mi
namespace L2
open PySem PySem.Spec PyProof.Rows
def gB (cells:List (Str × Addr)):List (Str × NameKind)->List (Str × Addr)->List (Str × Addr)
 | [],acc=>acc
 | (n,k)::r,acc=>if k == .free then gB cells r ((n,(cells.lookup n).getD 0)::acc) else gB cells r acc
theorem iY {scope:Scope} {env:Env} (h:∀ x ∈ scope.names,x.2=.free->∃ c,env.cells.lookup x.1=some c):closureFor scope env=pure (gB env.cells scope.names []):=by
 unfold closureFor
 have go:∀ (names:List (Str × NameKind)) (acc:List (Str × Addr)),(∀ x ∈ names,x.2=.free->∃ c,env.cells.lookup x.1=some c) →
     (forIn names acc (fun (x:Str × NameKind) (r:List (Str × Addr))=>(if (x.2 == NameKind.free)=true then (do let y <- cellOf env x.1;pure (ForInStep.yield ((x.1,y)::r))) else pure (ForInStep.yield r):Sem (ForInStep (List (Str × Addr))))):Sem (List (Str × Addr)))=pure (gB env.cells names acc):=by
  intro names
  induction names with
  | nil=>intro acc _;rfl
  | cons x r ih =>
   intro acc hx
   obtain ⟨n,k⟩:=x
   rw [List.forIn_cons]
   unfold gB
   cases hk:(k == NameKind.free) with
   | false =>
    simp only [hk,Bool.false_eq_true,if_false]
    exact ih acc fun y hy=>hx y (List.mem_cons_of_mem _ hy)
   | true =>
    obtain ⟨c,hc⟩:=hx (n,k) List.mem_cons_self (by simpa using hk)
    simp only [hk,if_true,cellOf,hc,Option.getD_some]
    exact ih _ fun y hy=>hx y (List.mem_cons_of_mem _ hy)
 have:=go scope.names [] h
 simpa using this
theorem dH:∀ (names:List (Str × NameKind)) (n:Nat) (acc:List (Str × Addr)),cellsFrom n names acc=cellsFrom n names [] ++ acc
 | [],_,_=>rfl
 | (x,k)::r,n,acc=>by
  unfold cellsFrom
  split
  ·rw [dH r (n + 1) ((x,n)::acc),dH r (n + 1) [(x,n)]]
   simp
  ·exact dH r n acc
theorem gC:∀ (names:List (Str × NameKind)) (n:Nat) {x:Str} {c:Addr},(x,c) ∈ cellsFrom n names []->(x,NameKind.cell) ∈ names
 | [],_,_,_,h=>by simp [cellsFrom] at h
 | (y,k)::r,n,x,c,h=>by
  unfold cellsFrom at h
  split at h
  ·rename_i hk
   rw [dH] at h
   rcases List.mem_append.mp h with h | h
   ·exact List.mem_cons_of_mem _ (gC r (n + 1) h)
   ·simp at h
    rw [h.1]
    have:k=.cell:=by simpa using hk
    rw [this]
    exact List.mem_cons_self
  ·exact List.mem_cons_of_mem _ (gC r n h)
theorem lT (cells:List (Str × Addr)):∀ (names:List (Str × NameKind)) (acc:List (Str × Addr)) {x:Str} {c:Addr},(x,c) ∈ gB cells names acc->((x,NameKind.free) ∈ names/\c=(cells.lookup x).getD 0) \/ (x,c) ∈ acc
 | [],acc,x,c,h=>.inr h
 | (n,k)::r,acc,x,c,h=>by
  unfold gB at h
  split at h
  ·rename_i hk
   rcases lT cells r _ h with ⟨a,b⟩ | h
   ·exact .inl ⟨List.mem_cons_of_mem _ a,b⟩
   ·rcases List.mem_cons.mp h with h | h
    ·cases h
     have:k=.free:=by simpa using hk
     rw [this]
     exact .inl ⟨List.mem_cons_self,rfl⟩
    ·exact .inr h
  ·rcases lT cells r _ h with ⟨a,b⟩ | h
   ·exact .inl ⟨List.mem_cons_of_mem _ a,b⟩
   ·exact .inr h
theorem lU (cells:List (Str × Addr)):∀ (names:List (Str × NameKind)) (acc:List (Str × Addr)) {x:Str},((x,NameKind.free) ∈ names \/ ∃ c,(x,c) ∈ acc)->∃ c,(x,c) ∈ gB cells names acc
 | [],acc,x,h=>by
  rcases h with h | h
  ·simp at h
  ·exact h
 | (n,k)::r,acc,x,h=>by
  unfold gB
  split
  ·refine lU cells r _ ?_
   rcases h with h | ⟨c,h⟩
   ·rcases List.mem_cons.mp h with h | h
    ·cases h;exact .inr ⟨_,List.mem_cons_self⟩
    ·exact .inl h
   ·exact .inr ⟨c,List.mem_cons_of_mem _ h⟩
  ·rename_i hk
   refine lU cells r _ ?_
   rcases h with h | ⟨c,h⟩
   ·rcases List.mem_cons.mp h with h | h
    ·cases h;exact absurd rfl hk
    ·exact .inl h
   ·exact .inr ⟨c,h⟩
theorem iZ {α:Type}:∀ {l:List (Str × α)} {x:Str} {c:α},(x,c) ∈ l->∃ c',l.lookup x=some c'
 | (k,v)::r,x,c,h=>by
  rw [List.lookup_cons]
  cases hb:x == k with
  | true=>exact ⟨v,rfl⟩
  | false =>
   rcases List.mem_cons.mp h with h | h
   ·cases h;simp at hb
   ·exact iZ h
theorem fg {α:Type}:∀ {l:List (Str × α)} {x:Str} {c:α},(l.map (·.1)).Nodup->(x,c) ∈ l->l.lookup x=some c
 | (k,v)::r,x,c,nd,h=>by
  rw [List.lookup_cons]
  rw [List.map_cons] at nd
  obtain ⟨n1,n2⟩:=List.nodup_cons.mp nd
  rcases List.mem_cons.mp h with h1 | h1
  ·cases h1;simp
  ·have:(x == k)=false:=by
      simp only [beq_eq_false_iff_ne]
      intro e
      exact n1 (e ▸ List.mem_map.mpr ⟨_,h1,rfl⟩)
   rw [this]
   exact fg n2 h1
theorem mq {α:Type}:∀ (l r:List (Str × α)) (x:Str),(l ++ r).lookup x=(l.lookup x).or (r.lookup x)
 | [],r,x=>by simp
 | (k,v)::l,r,x=>by
  rw [List.cons_append,List.lookup_cons,List.lookup_cons]
  cases hb:x == k with
  | true=>rfl
  | false=>exact mq l r x
def yN (X:Cx) (scope:Scope) (C:Addr) (cells:List (Str × Addr)):Env:=
 { scope:=relabel scope X.env,locals:=C,globals:=X.env.globals,cells:=cells,qual:=X.env.qual,func:=none,code:=X.env.code,frame:=X.env.frame,builtins:=X.env.builtins }
def eI (X:Cx) (scope:Scope) (N:List Str) (C:Addr) (cells:List (Str × Addr)) (s0:Shared) (H0:Hp) (ex:List Addr) (pn:List (Addr × Obj)):Cx where
 prog:=X.prog
 w:=X.w
 K:=X.K
 mg:=X.mg
 base:=X.base
 A:=X.A
 N:=N
 s₀:=s0
 H₀:=H0
 env:=yN X scope C cells
 outer:=X.stack
 stack:=X.stack
 ex:=ex
 fn:=fun x=>decide (scope.names.lookup x=some .cell)
 calm:=X.calm
 pn:=pn
 xe:=fun _ _=>False
structure CompScope (X:Cx) (scope:Scope) (own:List Str) (cap:List (Str × Nat)):Prop where
 kind:scope.kind=.function
 nd:(scope.names.map (·.1)).Nodup
 free:∀ x ∈ scope.names,x.2=.free->X.env.kindOf x.1=some .cell \/ X.env.kindOf x.1=some .free
 capN:∀ p ∈ cap,X.N[p.2]?=some p.1/\scope.names.lookup p.1=some .free
 ndN:(own ++ cap.map (·.1)).Nodup
theorem jg {scope:Scope} {env:Env} (x:Str):(relabel scope env).names.lookup x=match scope.names.lookup x with
    | some .free=>if env.scope.kind == ScopeKind.function && env.kindOf x == some NameKind.cell then some .cell else some .free
    | k=>k:=by
 unfold relabel
 show List.lookup x (scope.names.map _)=_
 induction scope.names with
 | nil=>rfl
 | cons p r ih =>
  obtain ⟨n,k⟩:=p
  rw [List.map_cons,List.lookup_cons,List.lookup_cons]
  have hfst:(if (k == NameKind.free && env.scope.kind == ScopeKind.function && env.kindOf n == some NameKind.cell)=true then (n,NameKind.cell) else (n,k)).1=n:=by split <;> rfl
  show (match x == (if (k == NameKind.free && env.scope.kind == ScopeKind.function && env.kindOf n == some NameKind.cell)=true then (n,NameKind.cell) else (n,k)).1 with | true=>some (if (k == NameKind.free && env.scope.kind == ScopeKind.function && env.kindOf n == some NameKind.cell)=true then (n,NameKind.cell) else (n,k)).2 | false=>_)=_
  rw [hfst]
  cases hx:x == n with
  | false=>exact ih
  | true =>
   have e:x=n:=by simpa using hx
   subst e
   cases k with
   | free =>
    cases hc:(env.scope.kind == ScopeKind.function && env.kindOf x == some NameKind.cell) with
    | true=>simp only [beq_self_eq_true,Bool.true_and,hc,if_true]
    | false=>simp only [beq_self_eq_true,Bool.true_and,hc,Bool.false_eq_true,if_false]
   | _=>rfl
theorem qD {M:Model} {A:Around} {E:Value->Shared->Prop} {s:Shared} {scope:Scope} {g:Addr} {cl:List (Str × Addr)} {qual:Str} {env:Env} {Q:Env->Shared->Prop}
    (h:∀ h':Heap,h'.Ns s.heap.objs.size (fun _=>none)->(∀ b o,s.heap.get? b=some o->h'.get? b=some o) →
     (∀ x c,(x,c) ∈ cellsFrom (s.heap.objs.size + 1) scope.names []->h'.IsCell c none/\s.heap.objs.size + 1 <= c)->((cellsFrom (s.heap.objs.size + 1) scope.names []).Pairwise fun x y=>x.2 ≠ y.2) →
     Q { scope,locals:=s.heap.objs.size,globals:=g,cells:=cellsFrom (s.heap.objs.size + 1) scope.names cl,qual,func:=none,code:=env.code,frame:=env.frame,builtins:=env.builtins } { s with heap:=h' }) :
    wpAny M A (newFunctionEnv scope g cl [] qual none .none (some env)) Q E s:=by
 simp only [newFunctionEnv,Option.isSome_some,if_true]
 refine wpAny_bind (wpAny_alloc ?_)
 refine wpAny_bind (wpAny_layCells _ (fun name kind cells=>by cases hkc:kind == NameKind.cell <;> simp [hkc]) _ _ _ _ ?_)
 have ok:=cellsFrom_ok scope.names (s.heap.push { cls:=.type "dict", data:=.dict #[] }) (s.heap.objs.size + 1) [] ⟨fun _ _ hm=>(nomatch hm),List.Pairwise.nil⟩ (by rw [Heap.size_push];exact Nat.le_refl _)
 rw [Heap.size_push] at ok
 rw [show ({ s with heap:=s.heap.push { cls:=.type "dict", data:=.dict #[] } }:Shared).heap.objs.size=s.heap.objs.size + 1 from Heap.size_push ..]
 refine wpAny_bind (wpAny_pure (wpAny_pure ?_))
 exact h _ ((Heap.Ns.new s.heap (.type "dict")).keeps (pushCells_keeps _ _)) (fun b o e=>pushCells_keeps _ _ b o (Heap.get?_push_of_some _ e)) (fun x c m=>ok.empty x c m) ok.apart
section
variable {X:Cx} {pins:List (Addr × Obj)} {σ:St} {H:Hp} {s:Shared} {scope:Scope} {own:List Str} {cap:List (Str × Nat)}
abbrev fL (X:Cx) (scope:Scope) (n:Nat):List (Str × Addr):=cellsFrom (n + 1) scope.names (gB X.env.cells scope.names [])
theorem cG (I:Inv X pins σ H s) (S:CompScope X scope own cap) {n:Nat} {x:Str} {c:Addr} (h:(fL X scope n).lookup x=some c) :
    ((x,c) ∈ cellsFrom (n + 1) scope.names []/\scope.names.lookup x=some .cell) \/ (scope.names.lookup x=some .free/\X.env.cells.lookup x=some c):=by
 unfold fL at h
 rw [dH,mq] at h
 cases e:(cellsFrom (n + 1) scope.names []).lookup x with
 | some c' =>
  rw [e] at h
  cases h
  have m:=PySem.mem_of_lookup e
  exact .inl ⟨m,fg S.nd (gC _ _ m)⟩
 | none =>
  rw [e] at h
  have h:(gB X.env.cells scope.names []).lookup x=some c:=h
  rcases lT _ _ _ (PySem.mem_of_lookup h) with ⟨a,b⟩ | a
  ·have hk:=fg S.nd a
   obtain ⟨c',hc'⟩:=I.ok.has x (S.free _ a rfl)
   rw [hc'] at b
   exact .inr ⟨hk,by rw [hc',b];rfl⟩
  ·simp at a
theorem lA (I:Inv X pins σ H s) (S:CompScope X scope own cap) {n:Nat} {x:Str} (h:scope.names.lookup x=some .free):∃ c,(fL X scope n).lookup x=some c/\X.env.cells.lookup x=some c:=by
 have m:=PySem.mem_of_lookup h
 obtain ⟨c,hc⟩:=lU X.env.cells scope.names [] (.inl m)
 obtain ⟨c',hc'⟩:=iZ (l:=fL X scope n) (x:=x) (c:=c) (by unfold fL;rw [dH];exact List.mem_append_right _ hc)
 rcases cG I S hc' with ⟨_,k⟩ | ⟨_,k⟩
 ·rw [h] at k;cases k
 ·exact ⟨c',hc',k⟩
theorem vv {H3:Hp} {h3:Heap} (I:Inv X pins σ H s) (I3:Inv X pins σ H3 { s with heap:=h3 }) (kp3:∀ b o,s.heap.get? b=some o->h3.get? b=some o) (S:CompScope X scope own cap) {fp:List Addr} (u3:Un (frs X.stack) fp H H3 s.heap h3)
    (hf:∀ b ∈ fp,gA X pins H b) (he:∀ b ∈ fp,∃ o,s.heap.get? b=some o) {h':Heap}
    (ns:h'.Ns h3.objs.size (fun _=>none)) (kp:∀ b o,h3.get? b=some o->h'.get? b=some o)
    (cl:∀ x c,(x,c) ∈ cellsFrom (h3.objs.size + 1) scope.names []->h'.IsCell c none/\h3.objs.size + 1 <= c) (ap:(cellsFrom (h3.objs.size + 1) scope.names []).Pairwise fun x y=>x.2 ≠ y.2) (hle:s.heap.objs.size <= h3.objs.size) :
    Inv (eI X scope (own ++ cap.map (·.1)) h3.objs.size (fL X scope h3.objs.size) s H fp (X.pn ++ pins)) [] (List.replicate own.length none ++ cap.map fun p=>(σ[p.2]?).join) H3 { s with heap:=h' }:=by
 have low:∀ x c,X.env.cells.lookup x=some c->c < s.heap.objs.size:=fun x c e=>let ⟨v,q⟩:=I.cell x c e;q.lt
 have fresh:∀ a,h3.objs.size <= a->H3 a=none:=fun a h=>I3.hok.fresh h
 have notStk:∀ b,b ≠ X.env.locals->b ∉ X.fs->b ∉ frs X.stack:=fun b h1 h2 m=>by
  rcases List.mem_cons.mp (I.stkSub b m) with e | e
  ·exact h1 e
  ·exact h2 e
 refine ⟨⟨I.ok.mod,S.kind,I.ok.glob,I.ok.blt,hle,fun x y c h1 h2=>?_,fun x hx=>?_,fun x c hx h1=>?_,I.ok.hd,I.ok.frames,.inl rfl,fun b hb=>⟨?_,fun x c h1 z=>?_⟩,fun b o e=>I.bs b o e,Nat.le_trans I.ok.bsz I.sz,fun b o e hb=>?_,fun b hb=>?_,I.stack,fun b hb=>I.stkFree b hb⟩,
  rfl,I.bare,u3.trans (Un.kept kp),⟨_,ns,fun i x v h1 h2 hv3=>?_⟩,fun x c h1=>?_,fresh _ (Nat.le_refl _),fun x c h1=>?_,fun p hp=>?_,I3.hok.kept kp,?_⟩
 ·-- one cell,one name
  rcases cG I S h1 with ⟨m1,k1⟩ | ⟨k1,c1⟩ <;> rcases cG I S h2 with ⟨m2,k2⟩ | ⟨k2,c2⟩
  ·exact name_of_addr ap m1 m2
  ·exact absurd (Nat.lt_of_lt_of_le (low y c c2) hle) (Nat.not_lt.mpr (Nat.le_of_succ_le (cl x c m1).2))
  ·exact absurd (Nat.lt_of_lt_of_le (low x c c1) hle) (Nat.not_lt.mpr (Nat.le_of_succ_le (cl y c m2).2))
  ·exact I.ok.inj x y c c1 c2
 ·have hx:(relabel scope X.env).names.lookup x=some .cell \/ (relabel scope X.env).names.lookup x=some .free:=hx
  rw [jg] at hx
  cases e:scope.names.lookup x with
  | none=>rw [e] at hx;simp at hx
  | some k =>
   cases k with
   | free=>obtain ⟨c,a,_⟩:=lA (n:=h3.objs.size) I S e;exact ⟨c,a⟩
   | cell =>
    have q:=PySem.W.cellsFrom_some scope.names (h3.objs.size + 1) (gB X.env.cells scope.names []) (.inl e)
    exact Option.isSome_iff_exists.mp q
   | _=>rw [e] at hx;simp at hx
 ·have hx:scope.names.lookup x=some .cell:=of_decide_eq_true hx
  rcases cG I S h1 with ⟨m1,k1⟩ | ⟨k1,c1⟩
  ·show s.heap.objs.size <= c
   have:=(cl x c m1).2
   omega
  ·rw [hx] at k1;cases k1
 ·obtain ⟨o,e⟩:=he b hb
  exact Nat.ne_of_lt (Nat.lt_of_lt_of_le (Heap.lt_size e) hle)
 ·subst z
  rcases cG I S h1 with ⟨m1,k1⟩ | ⟨k1,c1⟩
  ·obtain ⟨o,e⟩:=he c hb
   exact absurd (Nat.lt_of_lt_of_le (Heap.lt_size e) hle) (Nat.not_lt.mpr (Nat.le_of_succ_le (cl x c m1).2))
  ·exact (hf c hb).2.2.2.2.1 x c c1 rfl
 ·rcases (hf b hb).2.2.2.1 with z | z
  ·exact I.ok.noex b o e z
  ·exact absurd (Nat.lt_of_lt_of_le (Heap.lt_size e) (Nat.le_trans I.ok.bsz z)) (Nat.lt_irrefl _)
 ·exact notStk b (hf b hb).2.1 (hf b hb).2.2.1
 ·-- the names from around
  by_cases hi:i < own.length
  ·rw [List.getElem?_append_left (by simpa using hi),List.getElem?_replicate] at h2
   split at h2 <;> cases h2
  ·rw [List.getElem?_append_right (by simpa using hi)] at h2
   have h1:(own ++ cap.map (·.1))[i]?=some x:=h1
   rw [List.getElem?_append_right (by omega)] at h1
   rw [List.length_replicate] at h2
   rw [List.getElem?_map] at h1 h2
   cases e:cap[i - own.length]? with
   | none=>rw [e] at h1;cases h1
   | some p =>
    rw [e] at h1 h2
    have e1:p.1=x:=Option.some.inj h1
    subst e1
    have e2:(σ[p.2]?).join=some v:=Option.some.inj h2
    obtain ⟨hN,hk⟩:=S.capN p (List.mem_of_getElem? e)
    have e3:σ[p.2]?=some (some v):=by
     cases q:σ[p.2]? with
     | none=>rw [q] at e2;cases e2
     | some o=>rw [q] at e2;rw [show o=some v from e2]
    obtain ⟨c,a1,a2⟩:=lA (n:=h3.objs.size) I S hk
    have hvis:X.env.kindOf p.1=some .cell \/ X.env.kindOf p.1=some .free:=S.free _ (PySem.mem_of_lookup hk) rfl
    obtain ⟨m,hn,hl⟩:=I.loc
    obtain ⟨u,r,l⟩:=hl p.2 p.1 v hN e3 (by rcases hvis with z | z;exact .inr (.inl z);exact .inr (.inr z))
    refine ⟨u,r,.inr ⟨?_,c,a1,?_⟩⟩
    ·show (relabel scope X.env).names.lookup p.1=some .cell \/ (relabel scope X.env).names.lookup p.1=some .free
     rw [jg,hk]
     cases hb:(X.env.scope.kind == ScopeKind.function && X.env.kindOf p.1 == some NameKind.cell) with
     | true=>exact .inl (by simp [hb])
     | false=>exact .inr (by simp [hb])
    ·rcases l with ⟨z,_⟩ | ⟨_,c',b1,b2⟩
     ·rcases hvis with y | y <;> rw [y] at z <;> cases z
     ·rw [a2] at b1
      cases b1
      exact (b2.keeps kp3).keeps kp
 ·rcases cG I S h1 with ⟨m1,k1⟩ | ⟨k1,c1⟩
  ·exact ⟨none,(cl x c m1).1⟩
  ·obtain ⟨v,q⟩:=I.cell x c c1
   exact ⟨v,(q.keeps kp3).keeps kp⟩
 ·rcases cG I S h1 with ⟨m1,k1⟩ | ⟨k1,c1⟩
  ·exact fresh c (by have:=(cl x c m1).2;omega)
  ·exact I3.freeC x c c1
 ·have hp:p ∈ (X.pn ++ pins) ++ []:=hp
  rw [List.append_nil] at hp
  obtain ⟨a,b,c,d,e⟩:=I3.pin p hp
  exact ⟨kp _ _ a,b,Nat.ne_of_lt (Heap.lt_size a),notStk _ c d,e⟩
 ·show _=(own ++ cap.map (·.1)).length
  simp
end
section
variable {prog:Program} {w:World} {A:Around} {R:Result->Shared->Prop} {s:Shared}
theorem tJ {elt target iter:Expr} {ifs:List Expr} {scope:Scope} {pos:Pos} {it acc:Value} {env:Env} (I:Nat->Shared->Prop)
    (turn:∀ n s,I n s->wpAny (model prog w) A (pyNext it) (fun r s₁=>match r with
     | none=>R (.ok .next) s₁
     | some v=>wpAny (model prog w) A (letOwnedTupleGo target it v) (fun _ s₁'=>wpAny (model prog w) A (assign target env v) (fun _ s₂ =>
         wpAny (model prog w) A (forIn ifs true fun c r=>if r=true then do let ok <- isTrue c env (eval c env);pure (ForInStep.yield ok) else pure (ForInStep.yield r)) (fun ok s₃ =>
          if ok=true then wpAny (model prog w) A (eval elt env) (fun x s₄ =>
           wpAny (model prog w) A (call (.builtin "list.append") [acc,x]) (fun _ s₅=>∃ m,m < n/\I m s₅) (fun _ _=>False) s₄) (fun _ _=>False) s₃
          else ∃ m,m < n/\I m s₃) (fun _ _=>False) s₂) (fun _ _=>False) s₁') (fun _ _=>False) s₁) (fun _ _=>False) s)
    (n:Nat) (h:I n s):codeAny (model prog w) A (.compLoop (.ListComp elt [⟨target,iter,ifs,0⟩] scope pos) 0 it acc env) R s:=by
 refine codeAny_loop rfl I (fun n s hI=>?_) n h
 show wpAny _ A ((compTurn (.ListComp elt [⟨target,iter,ifs,0⟩] scope pos) 0 it acc env).onRaise (fun x=>do noteFrame x env;theTreesLotGoes x)) _ _ s
 refine wpAny_noted ?_
 rw [compTurn_list]
 refine wpAny_bind (wpAny_standAt (wpAny_bind (wpAny_mono (turn n s hI) (fun r s₁ h₁=>?_) fun _ _ h'=>h'.elim)))
 cases r with
 | none=>exact wpAny_pure h₁
 | some v =>
  refine wpAny_bind (wpAny_mono h₁ (fun _ s₁' h₁'=>?_) fun _ _ h'=>h'.elim)
  refine wpAny_bind (wpAny_mono h₁' (fun _ s₂ h₂=>wpAny_bind (wpAny_mono h₂ (fun ok s₃ h₃=>?_) fun _ _ h'=>h'.elim)) fun _ _ h'=>h'.elim)
  cases ok with
  | false=>exact wpAny_pure ⟨rfl,h₃⟩
  | true =>
   exact wpAny_bind (wpAny_bind (wpAny_mono h₃ (fun x s₄ h₄=>wpAny_bind (wpAny_mono h₄ (fun _ s₅ h₅=>wpAny_pure (wpAny_pure ⟨rfl,h₅⟩)) fun _ _ h'=>h'.elim)) fun _ _ h'=>h'.elim))
end
end L2
namespace Mi
open PySem PySem.Spec L2
open PyProof.Rows hiding St
noncomputable def Yl (B H:Hp) (x:V) (H':Hp) (d:D):Prop:=d.tag=.f/\((H'=H/\Rep B x d) \/ ∃ p us ds,H p=none/\H'=upd H p (.tup us)/\x=.ref p/\d=.tup ds/\Reps B us ds)
noncomputable def gD (J:It) (B:Hp) (items:List D):Prop:=∀ H,Same B H->∀ i,(∀ d,items[i]?=some d->J.go i H/\∀ x H',J.yld i H x H'->Yl B H x H' d)/\(i=items.length->J.stop i H)
noncomputable def TIF (H0:Hp) (Ex:Value->Prop) (fi:ae->Res (List D)):TI:=fun σ H R=>∃ Hs ρ ts,SX Hs H0 H ts σ ρ ∧
 Post Ex (fi ρ) fun items=>∀ J H' Hf fp,gD J Hf items->Own Hf H' fp (tvs ts ++ σ) (tds ts ++ ρ)->Fine Hs H0 Hf H' fp->R J H'
structure FI (X:Cx) (H0:Hp) (Ex:Value->Prop) (tg iter:Expr) (fi:ae->Res (List D)):Prop where
 go:PI X tg iter (TIF H0 Ex fi)
theorem PI.pre {X:Cx} {tg e:Expr} {t t':TI} (h:PI X tg e t) (i:∀ σ H Q,t' σ H Q->t σ H Q):PI X tg e t':=fun pins s σ H Q I q=>h pins s σ H Q I (i σ H Q q)
noncomputable def TGF (H0:Hp) (gt:D->ae->Res ae):TG:=fun v σ H Q=>∃ Hs ρ d ts,SX Hs H0 H ((v,d)::ts) σ ρ/\d.tag ≠ .b/\noB ρ/\Post (fun _=>False) (gt d ρ) fun ρ'=>∀ σ',SX Hs H0 H ts σ' ρ'->noB ρ'->Q σ' H
structure FG (X:Cx) (H0:Hp) (tg:Expr) (gt:D->ae->Res ae):Prop where
 go:PG X tg (TGF H0 gt)
structure MG (X:Cx) (tg:Expr) (i:Nat):Prop where
 go:PG X tg (oZ i)
structure Po (X:Cx):Prop where
 go:PassesOwn (model X.prog X.w) X.A X.env X.xe
theorem PG.pre {X:Cx} {tg:Expr} {t t':TG} (h:PG X tg t) (i:∀ v σ H Q,t' v σ H Q->t v σ H Q):PG X tg t':=fun pins s σ H v u Q I r q=>h pins s σ H v u Q I r (i v σ H Q q)
theorem gX {α:Type}:∀ (l r:List α) (i:Nat) (x:α),(l ++ r).set (l.length + i) x=l ++ r.set i x
 | [],r,i,x=>by simp
 | a::l,r,i,x=>by
  have e:(a::l).length + i=(l.length + i) + 1:=by simp;omega
  rw [e,List.cons_append,List.set_cons_succ,gX l r i x]
  rfl
theorem SX.set {Hs H0 H:Hp} {v:V} {d:D} {ts:List (V × D)} {σ:St} {ρ:ae} (S:SX Hs H0 H ((v,d)::ts) σ ρ) (t:d.tag ≠ .b) {i:Nat} (hi:i < ρ.length):SX Hs H0 H ts (σ.set i (some v)) (ρ.set i (some d)):=by
 have S':SR Hs H0 H (some v::(tvs ts ++ σ)) (some d::(tds ts ++ ρ)):=S
 have:=SR.set S' t (i:=(tds ts).length + i) (by rw [List.length_append];omega)
 rw [gX,kY,<- kX ts,gX] at this
 exact this
section
variable {X:Cx} {Ex:Value->Prop} {H0:Hp} {e iter tg:Expr} {f:ae->Res D} {pos:Pos}
noncomputable def av (i:Nat):D->ae->Res ae:=fun d ρ=>if ρ.length <= i then .bad else .ok (ρ.set i (some d))
theorem bg {i:Nat} {x:Str} (hN:X.N.Nodup) (hi:X.N[i]?=some x) (hx:Loc X.env.scope x) (hf:X.fn x=true \/ X.env.scope.names.lookup x=some .local:=by first | exact .inl rfl | exact .inr rfl | assumption):FG X H0 (.Name x pos) (av i):=by
 refine ⟨PG.pre (qQ hN hi hx hf) ?_⟩
 rintro v σ H Q ⟨Hs,ρ,d,ts,S,t,n,p⟩
 unfold av at p
 split at p
 ·exact p.elim
 ·exact p _ (SX.set S t (by omega)) (n.set fun d' e=>by cases e;exact t)
noncomputable def iw:List Nat->List D->ae->Res ae
 | [],[],ρ=>.ok ρ
 | i::is,d::ds,ρ=>if ρ.length <= i then .bad else iw is ds (ρ.set i (some d.asF))
 | _,_,_=>.bad
noncomputable def bw (is:List Nat):D->ae->Res ae:=fun d ρ=>match d with
 | .tup ds=>iw is ds ρ
 | _=>.bad
noncomputable def CK (H0:Hp) (is:List Nat):TGs:=fun vs σ H Q=>∃ Hs Hf fp ρ ds ts,Own Hf H fp (tvs ts ++ σ) (tds ts ++ ρ)/\Fine Hs H0 Hf H fp/\Reps Hf vs ds/\noB ρ/\Post (fun _=>False) (iw is ds ρ) fun ρ'=>∀ σ',SX Hs H0 H ts σ' ρ'->noB ρ'->Q σ' H
structure FGs (X:Cx) (H0:Hp) (es:List Expr) (is:List Nat):Prop where
 go:PGs X es (CK H0 is)
theorem bQ {i:Nat} {x:Str} (hN:X.N.Nodup) (hi:X.N[i]?=some x) (hx:Loc X.env.scope x) (hf:X.fn x=true \/ X.env.scope.names.lookup x=some .local:=by first | exact .inl rfl | exact .inr rfl | assumption):MG X (.Name x pos) i:=⟨qQ hN hi hx hf⟩
theorem eN:FGs X H0 [] []:=by
 refine ⟨?_⟩
 intro pins s σ H vs us Q I r h
 refine wN pins s σ H vs us Q I r ?_
 obtain ⟨Hs,Hf,fp,ρ,ds,ts,O,F,R,n,p⟩:=h
 cases R with
 | nil=>exact ⟨rfl,p σ ⟨Hf,fp,O,F⟩ n⟩
 | cons a b=>exact p.elim
theorem bD {i:Nat} {is:List Nat} {x:Str} {p:Pos} {es:List Expr} (h1:MG X (.Name x p) i) (h2:FGs X H0 es is)
    (hs:(assignEach (.Name x p::es) X.env).map (·.2)=assign (.Name x p) X.env::(assignEach es X.env).map (·.2):=by rfl):FGs X H0 (.Name x p::es) (i::is):=by
 refine ⟨?_⟩
 intro pins s σ H vs us Q I r h
 refine u6 h1.go h2.go hs pins s σ H vs us Q I r ?_
 obtain ⟨Hs,Hf,fp,ρ,ds,ts,O,F,R,n,p⟩:=h
 cases R with
 | nil=>exact p.elim
 | cons a b =>
  rename_i v d vs ds
  unfold iw at p
  split at p
  ·exact p.elim
  ·rename_i hi
   refine ⟨v,vs,rfl,?_⟩
   obtain ⟨fp',O',fp2,pm,sl⟩:=Own.put (.fz a.asF d.asF_tag) O (i:=(tds ts).length + i) (by rw [List.length_append];omega)
   rw [gX,kY,<- kX ts,gX] at O'
   exact ⟨Hs,Hf,fp',_,ds,ts,O',(F.subl sl).perm (by simpa using pm),b,n.set fun d' e=>by cases e;rw [d.asF_tag];decide,p⟩
theorem fM {es:List Expr} {k:Nat} {is:List Nat} (hc:X.calm=true) (h:FGs X H0 es is) (hn:(assignEach es X.env).length=is.length:=by rfl) (hst:(assignEach es X.env).findIdx? (·.1)=none:=by rfl):FG X H0 (.Tuple es k pos) (bw is):=by
 refine ⟨PG.pre (yh hc h.go hn hst) ?_⟩
 rintro v σ H Q ⟨Hs,ρ,d,ts,S,t,n,p⟩
 unfold bw at p
 split at p
 ·rename_i ds
  obtain ⟨Hf,fp,O,F⟩:=S
  cases O with
  | brw z h r=>exact absurd z t
  | cons h r =>
   cases h with
   | fz h z =>
    cases h with
    | tup h q =>
     refine ⟨_,_,rfl,SqT.of (F.fh _ _ h),?_,Hs,Hf,_,ρ,ds,ts,r,F.subl (List.sublist_append_right _ _),q,n,p⟩
     rw [q.length]
     have:∀ (is:List Nat) (ds:List D) (ρ:ae) {Ex:Value->Prop} {k:ae->Prop},Post Ex (iw is ds ρ) k->ds.length=is.length:=by
      intro is
      induction is with
      | nil=>intro ds ρ Ex k h;cases ds with | nil=>rfl | cons a b=>exact h.elim
      | cons i is ih =>
       intro ds ρ Ex k h
       cases ds with
       | nil=>exact h.elim
       | cons a b =>
        unfold iw at h
        split at h
        ·exact h.elim
        ·simp [ih b _ h]
     exact this is ds ρ p
 ·exact p.elim
theorem yO {K:PySem.W.Frag} {B:Hp} {a:Addr} {us:List V} {ds:List D} (h:B a=some (.lst us)) (R:Reps B us ds) (t:∀ e ∈ ds,e.tag=.f):gD (Itl K a) B ds:=by
 intro H s i
 have hl:=R.length
 refine ⟨fun d hd=>?_,fun hi=>⟨us,SqL.of (s _ _ h),by omega⟩⟩
 obtain ⟨u,hu,ru⟩:=R.get hd
 refine ⟨⟨us,u,SqL.of (s _ _ h),hu⟩,fun x H' ⟨e,y⟩=>⟨t d (List.mem_of_getElem? hd),.inl ⟨e,?_⟩⟩⟩
 have:=y us (SqL.of (s _ _ h))
 rw [hu] at this
 cases this
 exact ru
noncomputable def a7 (lo:Int) (n:Nat):List D:=(List.range n).map fun (i:Nat)=>D.int (lo + (i:Int))
theorem yP {lo:Int} {n:Nat} {B:Hp}:gD (Itr lo n) B (a7 lo n):=by
 intro H s i
 refine ⟨fun d hd=>?_,fun hi=>(show n <= i from Nat.le_of_eq (by simpa [a7] using hi.symm))⟩
 simp only [a7,List.getElem?_map] at hd
 cases e:(List.range n)[i]? with
 | none=>rw [e] at hd;cases hd
 | some j =>
  rw [e] at hd
  obtain ⟨h1,h2⟩:=List.getElem?_eq_some_iff.mp e
  simp at h1 h2
  subst h2
  have hd:D.int (lo + (i:Int))=d:=Option.some.inj hd
  subst hd
  exact ⟨h1,fun x H' ⟨e1,e2⟩=>⟨rfl,.inl ⟨e1,by rw [e2];exact .int⟩⟩⟩
noncomputable def bW (fa:ae->Res (List D)):ae->Res (List D):=fun ρ=>fa ρ >>= fun es=>match es with
 | [.int j]=>if decide (-(2 ^ 62) <= j) && decide (j < 2 ^ 62) then .ok (a7 0 j.toNat) else .bad
 | _=>.bad
theorem dt {a:Expr} {p:Pos} {fa:ae->Res (List D)} (hg:Gl X "range") (hm:X.mg "range" = none) (ha:FA X H0 Ex [a] fa) (hs:starEach [a] X.env=[(false,eval a X.env)]:=by rfl):FI X H0 Ex tg (.Call (.Name "range" p) [a] [] pos) (bW fa):=by
 refine ⟨PI.pre (sW hg hm ha.go hs) ?_⟩
 rintro σ H R ⟨Hs,ρ,ts,S,p⟩
 refine ⟨Hs,ρ,ts,S,(Post.bind p).imp fun es _ p1 us H1 hl S1=>?_⟩
 split at p1
 ·rename_i j _
  split at p1
  ·rename_i hc
   simp at hc
   obtain ⟨u,rfl⟩:∃ u,us=[u]:=by
    cases us with
    | nil=>simp at hl
    | cons u r=>cases r with | nil=>exact ⟨u,rfl⟩ | cons _ _=>simp at hl
   have S2:=SX.held hl S1
   simp [hv,hd] at S2
   cases SR.isInt S2
   obtain ⟨Hf,fp,O,F⟩:=S2.drop
   exact ⟨j,rfl,by omega,by omega,p1 _ H1 Hf fp yP O F⟩
  ·exact p1.elim
 ·exact p1.elim
noncomputable def bv (gt:D->ae->Res ae) (gb:ae->FOut):List D->ae->FOut
 | [],ρ=>.nx ρ
 | x::xs,ρ=>match gt x ρ with
  | .ok ρ1=>match gb ρ1 with
   | .nx ρ2=>bv gt gb xs ρ2
   | .ct ρ2=>bv gt gb xs ρ2
   | .bk ρ2=>.nx ρ2
   | r=>r
  | _=>.bad
noncomputable def bH (fi:ae->Res (List D)) (gt:D->ae->Res ae) (gb:ae->FOut):ae->FOut:=fun ρ=>aft (fi ρ) fun items=>bv gt gb items ρ
theorem SR.base {Hs H0 Hf H1 H:Hp} {fp:List Addr} {vs:List (Option V)} {ds:List (Option D)} (F:Fine Hs H0 Hf H1 fp) (S:SR Hf H0 H vs ds):SR Hs H0 H vs ds:=by
 obtain ⟨Hg,fq,O,G⟩:=S
 refine ⟨Hg,fq,O,G.nd,G.own,G.fh,G.zh,F.sf.trans G.sf,fun a o e=>?_⟩
 rcases G.new a o e with ⟨o',z⟩ | z
 ·exact F.new a o' z
 ·exact .inr z
theorem PostS.base {Hs H0 Hf H1:Hp} {fp:List Addr} (F:Fine Hs H0 Hf H1 fp) {D:Ends} {r:FOut} (p:PostS Hs H0 Ex D r):PostS Hf H0 Ex D r:=by
 cases r with
 | nx ρ=>exact fun σ H S=>p σ H ⟨SR.base F S.1,S.2⟩
 | rt d=>exact fun v H S=>p v H (SR.base F S)
 | bk ρ=>exact fun σ H S=>p σ H ⟨SR.base F S.1,S.2⟩
 | ct ρ=>exact fun σ H S=>p σ H ⟨SR.base F S.1,S.2⟩
 | exc C=>exact p
 | bad=>exact p
theorem SR.re {Hs H0 Hf H:Hp} {fp:List Addr} {vs:List (Option V)} {ds:List (Option D)} (O:Own Hf H fp vs ds) (F:Fine Hs H0 Hf H fp):SR Hf H0 H vs ds:=
 ⟨Hf,fp,O,F.nd,F.own,F.fh,F.zh,Same.refl _,fun a o e=>.inl ⟨o,e⟩⟩
theorem SR.yl {B H0 H H':Hp} {vs:List (Option V)} {ds:List (Option D)} {x:V} {d:D} (S:SR B H0 H vs ds) (y:Yl B H x H' d):SR B H0 H' (some x::vs) (some d::ds):=by
 obtain ⟨t,y⟩:=y
 obtain ⟨Hf,fp,O,F⟩:=S
 rcases y with ⟨rfl,r⟩ | ⟨p,us,es,hp,rfl,rfl,rfl,R⟩
 ·exact ⟨Hf,[] ++ fp,.cons (.fz (r.mono F.sf) t) O,F⟩
 ·have sf:Same Hf (upd Hf p (.tup us)):=fun b o e=>by rw [aZ (bB e (F.fresh hp).1)];exact e
  exact SR.laidF O F hp (.tup bC ((R.mono F.sf).mono sf)) rfl
theorem cq {body:List Stmt} {fi:ae->Res (List D)} {gt:D->ae->Res ae} {gb:ae->FOut} (hp:Po X) (hc:X.calm=true) (hi:FI X H0 Ex tg iter fi) (hg:FG X H0 tg gt) (hb:FSs X H0 Ex body gb)
    (hs:∀ x,foldedSetIterable iter X.env x=pure x:=by intro _;rfl):FS X H0 Ex (.For tg iter body [] pos) (bH fi gt gb):=by
 refine ⟨PS.pre (yk hp.go hc hi.go hg.go hb.go hs) ?_⟩
 rintro D σ H ⟨Hs,ρ,⟨S,n⟩,p⟩
 refine ⟨Hs,ρ,[],S,(PostS.aft p).imp fun items _ p1 J H1 Hf fp ok O F=>?_⟩
 have p2:=PostS.base F p1
 refine ⟨fun i m σ H=>m=items.length - i/\i <= items.length/\∃ ρ',SS Hf H0 H σ ρ'/\PostS Hf H0 Ex D (bv gt gb (items.drop i) ρ'),⟨items.length,by simp,Nat.zero_le _,ρ,⟨SR.re O F,n⟩,by simpa using p2⟩,?_⟩
 rintro i m σ H ⟨rfl,hi,ρ',⟨S,n⟩,p⟩
 have sH:Same Hf H:=let ⟨_,_,_,G⟩:=S;G.sf.trans G.fh
 obtain ⟨h1,h2⟩:=ok H sH i
 by_cases hlt:i < items.length
 ·have hd:items[i]?=some items[i]:=by simp [hlt]
  obtain ⟨go,yl⟩:=h1 _ hd
  have hdrop:items.drop i=items[i]::items.drop (i + 1):=List.drop_eq_getElem_cons hlt
  rw [hdrop] at p
  unfold bv at p
  refine .inr ⟨go,fun σ' H'=>∃ ρ2,SS Hf H0 H' σ' ρ2/\PostS Hf H0 Ex D (bv gt gb (items.drop (i + 1)) ρ2),fun σ' H' ⟨ρ2,S2,q2⟩=>⟨items.length - (i + 1),by omega,rfl,hlt,ρ2,S2,q2⟩,fun x H' y=>?_⟩
  have S':=SR.yl S (yl x H' y)
  have t:items[i].tag ≠ .b:=by rw [(yl x H' y).1];decide
  refine ⟨Hf,ρ',items[i],[],S',t,n,?_⟩
  cases e:gt items[i] ρ' with
  | exc C=>rw [e] at p;exact p.elim
  | bad=>rw [e] at p;exact p.elim
  | ok ρ1 =>
   rw [e] at p
   intro σ1 S1 n1
   refine ⟨Hf,ρ1,⟨S1,n1⟩,?_⟩
   dsimp only at p
   cases e2:gb ρ1 with
   | nx ρ2=>rw [e2] at p;exact fun σ2 H2 S2=>⟨ρ2,S2,p⟩
   | ct ρ2=>rw [e2] at p;exact fun σ2 H2 S2=>⟨ρ2,S2,p⟩
   | bk ρ2=>rw [e2] at p;exact p
   | rt d=>rw [e2] at p;exact p
   | exc C=>rw [e2] at p;exact p
   | bad=>rw [e2] at p;exact p
 ·have e:i=items.length:=by omega
  subst e
  rw [List.drop_length] at p
  exact .inl ⟨h2 rfl,p σ H ⟨S,n⟩⟩
end
structure FTs (X:Cx) (H0:Hp) (ifs:List Expr) (ft:ae->Res Bool):Prop where
 go:∀ (pins:List (Addr × Obj)) (s:Shared) (σ:St) (H:Hp) (Q:Bool->Hp->Prop),Inv X pins σ H s->TTF H0 (fun _=>False) ft σ H Q →
 wpAny (model X.prog X.w) X.A (forIn ifs true fun c r=>if r=true then do let ok <- isTrue c X.env (eval c X.env);pure (ForInStep.yield ok) else pure (ForInStep.yield r)) (TP X pins σ Q) X.xe s
noncomputable def a8:ae->Res Bool:=fun _=>.ok true
theorem cF {X:Cx}:FTs X H0 [] a8:=by
 refine ⟨?_⟩
 intro pins s σ H Q I h
 obtain ⟨Hs,ρ,ts,S,p⟩:=h
 exact wpAny_tests_nil ⟨H,I,p H S⟩
theorem nE {X:Cx} {c:Expr} {ft:ae->Res Bool} (h:FT X H0 (fun _=>False) c ft):FTs X H0 [c] ft:=⟨fun pins s σ H Q I q=>wpAny_tests_one (h.go pins s σ H Q I q)⟩
noncomputable def bF (gt:D->ae->Res ae) (ft:ae->Res Bool) (fe:ae->Res D):List D->ae->List D->Res (List D)
 | [],_,acc=>.ok acc
 | x::xs,ρ,acc=>gt x ρ >>= fun ρ1=>ft ρ1 >>= fun b=>if b=true then fe ρ1 >>= fun d=>if d.tag=.b \/ sizeLine <= acc.length then .bad else bF gt ft fe xs ρ1 (acc ++ [d]) else bF gt ft fe xs ρ1 acc
noncomputable def bn (ρ:ae) (j:Nat):Option D:=match ρ[j]? with
 | some (some d)=>if d.tag=.f then some d else none
 | _=>none
noncomputable def aL (own:Nat) (cap:List Nat) (fi:ae->Res (List D)) (gt:D->ae->Res ae) (ft:ae->Res Bool) (fe:ae->Res D):ae->Res D:=fun ρ =>
 fi ρ >>= fun items=>match bF gt ft fe items (List.replicate own none ++ cap.map (bn ρ)) [] with
  | .ok ds=>.ok (.lst .o ds)
  | _=>.bad
theorem kf {Hf H:Hp} {vs:List (Option V)} {ds:List (Option D)} {fp:List Addr} (O:Own Hf H fp vs ds):∀ (n:Nat) (cap:List Nat) (k:Nat),(∀ j ∈ cap,True) →
    Own Hf H [] (List.replicate n none ++ cap.map fun j=>(vs[k + j]?).join) (List.replicate n none ++ cap.map fun j=>bn (ds.drop k) j)
 | 0,[],_,_=>.nil
 | 0,j::cap,k,h=>by
  have ih:=kf O 0 cap k fun _ _=>trivial
  simp only [List.replicate_zero,List.nil_append,List.map_cons] at ih ⊢
  unfold bn
  rw [List.getElem?_drop]
  split
  ·rename_i d hd
   split
   ·rename_i t
    obtain ⟨v,hv,r⟩:=O.getV hd
    rw [hv]
    cases r with
    | fz r _=>exact Own.cons (fp:=[]) (.fz r t) ih
    | lst z _ _=>exact absurd t z
    | dic z _ _=>exact absurd t z
    | ins z _ _=>exact absurd t z
    | slf _ _=>cases t
   ·exact .skip ih
  ·exact .skip ih
 | n + 1,cap,k,h=>by
  rw [List.replicate_succ,List.replicate_succ]
  exact .skip (kf O n cap k h)
section
variable {elt target iter:Expr} {ifs:List Expr} {scope:Scope} {pos:Pos} {gt:D->ae->Res ae} {ft:ae->Res Bool} {fe:ae->Res D}
theorem tK {Xc:Cx} (hc:Xc.calm=true) (hx:Xc.xe=fun _ _=>False) (iG:FG Xc Xc.H₀ target gt) (iT:FTs Xc Xc.H₀ ifs ft) (iE:FE Xc Xc.H₀ (fun _=>False) elt fe) {J:It} {fpi:List Addr} {it:Addr} {tn:Nat->Heap->Prop}
    (T:Turn Xc.prog Xc.w Xc.K target J fpi it tn) (stat:∀ {H':Hp},(∀ b ∈ fpi,H' b=none)->∀ b ∈ fpi,gA Xc [] H' b) {items:List D} {B:Hp} (ok:gD J B items) {out:List D} {Da:Addr} {R:Result->Shared->Prop}
    {σ0:St} {H1:Hp} {s1:Shared} {ρ0:ae} (I0:Inv Xc [] σ0 H1 s1) (st:tn 0 s1.heap) (fr:∀ b ∈ fpi,H1 b=none) (S0:SR B Xc.H₀ H1 (some (.ref Da)::σ0) (some (.lst .o [])::ρ0)) (n0:noB ρ0) (ho:bF gt ft fe items ρ0 []=.ok out)
    (hR:∀ σ' H' s',Inv Xc [] σ' H' s'->SR B Xc.H₀ H' [some (.ref Da)] [some (.lst .o out)]->R (.ok .next) s') :
    codeAny (model Xc.prog Xc.w) Xc.A (.compLoop (.ListComp elt [⟨target,iter,ifs,0⟩] scope pos) 0 (.ref it) (.ref Da) Xc.env) R s1:=by
 refine tJ (fun n s'=>∃ i σ' H' ρ' acc,n=items.length - i/\i <= items.length/\Inv Xc [] σ' H' s'/\tn i s'.heap/\(∀ b ∈ fpi,H' b=none)/\SR B Xc.H₀ H' (some (.ref Da)::σ') (some (.lst .o acc)::ρ')/\noB ρ'/\bF gt ft fe (items.drop i) ρ' acc=.ok out)
  ?_ items.length ⟨0,σ0,H1,ρ0,[],by simp,Nat.zero_le _,I0,st,fr,S0,n0,by simpa using ho⟩
 rintro n s2 ⟨i,σ2,H2,ρ2,acc,rfl,hi,I2,st2,fr2,S2,n2,e2⟩
 have sB:Same B H2:=let ⟨_,_,_,G⟩:=S2;G.sf.trans G.fh
 obtain ⟨h1,h2⟩:=ok H2 sB i
 by_cases hlt:i < items.length
 ·have hd:items[i]?=some items[i]:=by simp [hlt]
  obtain ⟨go,yl⟩:=h1 _ hd
  have hdrop:items.drop i=items[i]::items.drop (i + 1):=List.drop_eq_getElem_cons hlt
  rw [hdrop] at e2
  unfold bF at e2
  refine thn (T.item Xc rfl rfl rfl hc i [] s2 σ2 H2 (fun _ _=>False) I2 (stat fr2) st2 go) fun r s3 ⟨u,hr,h3⟩=>?_
  subst hr
  refine thn h3 fun _ s4 ⟨x,H4,I4,r4,y4,st4,fr4⟩=>?_
  have Y:=yl x H4 y4
  have S4:SX B Xc.H₀ H4 [(x,items[i]),(.ref Da,.lst .o acc)] σ2 ρ2:=SR.yl S2 Y
  have t4:items[i].tag ≠ .b:=by rw [Y.1];decide
  have I4':=I4.pinned (stat fr4) (T.obj _ _ st4)
  cases eg:gt items[i] ρ2 with
  | exc C=>rw [eg] at e2;cases e2
  | bad=>rw [eg] at e2;cases e2
  | ok ρ3 =>
   rw [eg] at e2
   have e2:(ft ρ3 >>= fun b=>if b=true then fe ρ3 >>= fun d=>if d.tag=.b \/ sizeLine <= acc.length then .bad else bF gt ft fe (items.drop (i + 1)) ρ3 (acc ++ [d]) else bF gt ft fe (items.drop (i + 1)) ρ3 acc)=.ok out:=e2
   have again:∀ {σ7:St} {H7:Hp} {s7:Shared} {ρ7:ae} {acc':List D},Inv Xc ([] ++ j9 fpi s4.heap) σ7 H7 s7->SR B Xc.H₀ H7 (some (.ref Da)::σ7) (some (.lst .o acc')::ρ7)->noB ρ7->bF gt ft fe (items.drop (i + 1)) ρ7 acc'=.ok out →
       ∃ m,m < items.length - i/\∃ i σ' H' ρ' acc,m=items.length - i/\i <= items.length/\Inv Xc [] σ' H' s7/\tn i s7.heap/\(∀ b ∈ fpi,H' b=none)/\SR B Xc.H₀ H' (some (.ref Da)::σ') (some (.lst .o acc)::ρ')/\noB ρ'/\bF gt ft fe (items.drop i) ρ' acc=.ok out:=fun {σ7 H7 s7 ρ7 acc'} I7 S7 n7 e7=>by
    refine ⟨items.length - (i + 1),by omega,i + 1,σ7,H7,ρ7,acc',rfl,hlt,I7.unpinned,T.keep _ _ _ st4 fun b hb o e=>(I7.pin (b,o) (List.mem_append_right _ (List.mem_append_right _ (ij hb e)))).1,fun b hb=>?_,S7,n7,e7⟩
    obtain ⟨o,e,d⟩:=T.obj _ _ st4 b hb
    exact (I7.pin (b,o) (List.mem_append_right _ (List.mem_append_right _ (ij hb e)))).2.1
   refine wpAny_mono (iG.go _ s4 σ2 H4 x u (fun σ' H'=>SX B Xc.H₀ H' [(.ref Da,.lst .o acc)] σ' ρ3/\noB ρ3) I4' r4 ⟨B,ρ2,items[i],[(.ref Da,.lst .o acc)],S4,t4,n2,by rw [eg];exact fun σ' S' n'=>⟨S',n'⟩⟩) (fun _ s5 ⟨σ5,H5,I5,S5,n5⟩=>?_) (fun _ _ z=>by rw [hx] at z;exact z)
   cases eb:ft ρ3 with
   | exc C=>rw [eb] at e2;cases e2
   | bad=>rw [eb] at e2;cases e2
   | ok b =>
    rw [eb] at e2
    refine wpAny_mono (iT.go _ s5 σ5 H5 (fun b' H'=>b'=b/\SX B Xc.H₀ H' [(.ref Da,.lst .o acc)] σ5 ρ3) I5 ⟨B,ρ3,[(.ref Da,.lst .o acc)],S5,by rw [eb];exact fun H' S'=>⟨rfl,S'⟩⟩) (fun b' s6 ⟨H6,I6,hb,S6⟩=>?_) (fun _ _ z=>by rw [hx] at z;exact z)
    subst hb
    cases b' with
    | false =>
     have e2:bF gt ft fe (items.drop (i + 1)) ρ3 acc=.ok out:=e2
     rw [if_neg Bool.false_ne_true]
     exact again I6 S6 n5 e2
    | true =>
     have e2:(fe ρ3 >>= fun d=>if d.tag=.b \/ sizeLine <= acc.length then .bad else bF gt ft fe (items.drop (i + 1)) ρ3 (acc ++ [d]))=.ok out:=e2
     rw [if_pos rfl]
     cases ed:fe ρ3 with
     | exc C=>rw [ed] at e2;cases e2
     | bad=>rw [ed] at e2;cases e2
     | ok d =>
      rw [ed] at e2
      have e2:(if d.tag=.b \/ sizeLine <= acc.length then .bad else bF gt ft fe (items.drop (i + 1)) ρ3 (acc ++ [d]))=Res.ok out:=e2
      split at e2
      ·cases e2
      ·rename_i hcd
       refine wpAny_mono (iE.go _ s6 σ5 H6 (fun v H'=>SX B Xc.H₀ H' [(v,d),(.ref Da,.lst .o acc)] σ5 ρ3) I6 ⟨B,ρ3,[(.ref Da,.lst .o acc)],S6,by rw [ed];exact fun v H' S'=>S'⟩) (fun uv s7 ⟨v,H7,I7,r7,S7⟩=>?_) (fun _ _ z=>by rw [hx] at z;exact z)
       have nn:noB (some (.lst .o acc)::ρ3):=fun d' m=>by
        rcases List.mem_cons.mp m with e | m
        ·cases e;exact fun z=>nomatch z
        ·exact n5 d' m
       obtain ⟨p,us,hp,hH,hl,S8⟩:=SR.append (vs:=some (.ref Da)::σ5) (ds:=some (.lst .o acc)::ρ3) S7 (fun z=>hcd (.inl z)) nn (i:=0) (xs:=acc) rfl
       have hp:p=Da:=by simpa using hp.symm
       subst hp
       refine wpAny_mono (kc (X:=Xc) _ s7 σ5 H7 (.ref p) [v] (.ref p) [uv] (fun _ H'=>H'=upd H7 p (.lst (us ++ [v]))) I7 rfl (.cons r7 .nil) ⟨p,us,v,rfl,rfl,hH,by rw [hl];omega,rfl⟩) (fun _ s8 ⟨_,H8,I8,_,e8⟩=>?_) (fun _ _ z=>by rw [hx] at z;exact z)
       subst e8
       exact again I8 S8 n5 e2
 ·have e:i=items.length:=by omega
  subst e
  rw [List.drop_length] at e2
  have e2:Res.ok acc=.ok out:=e2
  cases e2
  refine thn (T.done Xc rfl rfl rfl hc _ [] s2 σ2 H2 (fun _ _=>False) I2 (stat fr2) st2 (h2 rfl)) fun r s3 ⟨hr,I3⟩=>?_
  subst hr
  exact hR σ2 H2 s3 I3 (SR.only (vs':=[]) (ds':=[]) S2)
end
section
variable {X:Cx} {Ex:Value->Prop} {H0:Hp} {elt target iter:Expr} {ifs:List Expr} {scope:Scope} {pos:Pos} {own:List Str} {cap:List (Str × Nat)}
theorem mr {pins:List (Addr × Obj)} {σ:St} {H Hf Hs:Hp} {s:Shared} {fp:List Addr} {ρ:ae} {ts:List (V × D)} {items:List D} {gt:D->ae->Res ae} {ft:ae->Res Bool} {fe:ae->Res D} {it:Addr} {fpi:List Addr} {tn:Nat->Heap->Prop} {J:It}
    (hc:X.calm=true) (CS:CompScope X scope own cap)
    (inner:∀ C cells s0 H0 ex pn,(own ++ cap.map (·.1)).Nodup->FG (eI X scope (own ++ cap.map (·.1)) C cells s0 H0 ex pn) H0 target gt/\FTs (eI X scope (own ++ cap.map (·.1)) C cells s0 H0 ex pn) H0 ifs ft/\FE (eI X scope (own ++ cap.map (·.1)) C cells s0 H0 ex pn) H0 (fun _=>False) elt fe)
    (I:Inv X pins σ H s) (T:Turn X.prog X.w X.K target J fpi it tn) (st:tn 0 s.heap) (hf:∀ b ∈ fpi,gA X pins H b) (ok:gD J Hf items)
    (O:Own Hf H fp (tvs ts ++ σ) (tds ts ++ ρ)) (F:Fine Hs H0 Hf H fp) {out:List D} (ho:bF gt ft fe items (List.replicate own.length none ++ cap.map fun p=>bn ρ p.2) []=.ok out)
    {RR:Value->Addr->Result->Shared->Prop}
    (hRR:∀ D C s' H' m,s'.heap.Ns C m->s.heap.objs.size <= C->(∀ h'',Heap.SameBut C s'.heap h''->Inv X pins σ H' { s' with heap:=h'' }/\H' C=none)->SR Hf H H' [some (.ref D)] [some (.lst .o out)]->RR (.ref D) C (.ok .next) s') :
    wpAny (model X.prog X.w) X.A (newList []) (fun acc s₃=>wpAny (model X.prog X.w) X.A (newFunctionEnv scope X.env.globals (gB X.env.cells scope.names []) [] X.env.qual none .none (some X.env)) (fun cenv s₄ =>
     codeAny (model X.prog X.w) X.A (.compStart (.ListComp elt [⟨target,iter,ifs,0⟩] scope pos) 0 (.ref it) acc { cenv with scope:=relabel scope X.env }) (RR acc cenv.locals) s₄) X.xe s₃) X.xe s:=by
 have hfr:H s.heap.objs.size=none:=I.hok.fresh (Nat.le_refl _)
 refine wpAny_newObj_type ?_ (by show ([]:List Value).toArray.size <= sizeLine;simp)
 -- the list
 have I3:Inv X pins σ (upd H s.heap.objs.size (.lst [])) { s with heap:=s.heap.push { cls:=.type "list", dict:=none,data:=.seq ([]:List Value).toArray } }:=
  I.laid (t':=s.toks) (fun b u e=>Heap.get?_push_of_some _ e) (Nat.le_refl _) ⟨Nat.zero_le _,[],0,.nil,Heap.get?_push_size _ rfl⟩
 have kp3:∀ b o,s.heap.get? b=some o->(s.heap.push { cls:=.type "list", dict:=none,data:=.seq ([]:List Value).toArray }).get? b=some o:=fun b o e=>Heap.get?_push_of_some _ e
 have hsz3:(s.heap.push { cls:=.type "list", dict:=none,data:=.seq ([]:List Value).toArray }).objs.size=s.heap.objs.size + 1:=Heap.size_push ..
 generalize s.heap.push { cls:=.type "list", dict:=none,data:=.seq ([]:List Value).toArray }=h3 at I3 kp3 hsz3 ⊢
 have hle:s.heap.objs.size <= h3.objs.size:=by rw [hsz3];exact Nat.le_succ _
 refine qD (s:={ s with heap:=h3 }) fun h' ns kp cl ap=>?_
 have he:∀ b ∈ fpi,∃ o,s.heap.get? b=some o:=fun b hb=>let ⟨o,e,_⟩:=T.obj 0 _ st b hb;⟨o,e⟩
 have u3:Un (frs X.stack) fpi H (upd H s.heap.objs.size (.lst [])) s.heap h3:=Un.laid kp3 (Nat.le_refl _) hfr
 have IC:=vv I I3 kp3 CS u3 hf he ns kp cl ap (by omega)
 obtain ⟨iG,iT,iE⟩:=inner h3.objs.size (fL X scope h3.objs.size) s H fpi (X.pn ++ pins) CS.ndN
 -- the iterator stands apart
 have fpC:∀ {H':Hp},(∀ b ∈ fpi,H' b=none)->∀ b ∈ fpi,gA (eI X scope (own ++ cap.map (·.1)) h3.objs.size (fL X scope h3.objs.size) s H fpi (X.pn ++ pins)) [] H' b:=fun {H'} hn b hb=>by
  obtain ⟨o,e⟩:=he b hb
  refine ⟨hn b hb,?_,?_,.inl hb,fun x c hx z=>?_,fun p hp z=>?_⟩
  ·exact Nat.ne_of_lt (Nat.lt_of_lt_of_le (Heap.lt_size e) hle)
  ·show b ∉ frs X.stack
   intro m
   rcases List.mem_cons.mp (I.stkSub b m) with z | z
   ·exact (hf b hb).2.1 z
   ·exact (hf b hb).2.2.1 z
  ·have hx:(fL X scope h3.objs.size).lookup x=some c:=hx
   subst z
   rcases cG I CS hx with ⟨m1,k1⟩ | ⟨k1,c1⟩
   ·exact absurd (Nat.lt_of_lt_of_le (Heap.lt_size e) hle) (Nat.not_lt.mpr (Nat.le_of_succ_le (cl x c m1).2))
   ·exact (hf c hb).2.2.2.2.1 x c c1 rfl
  ·have hp:p ∈ (X.pn ++ pins) ++ []:=hp
   rw [List.append_nil] at hp
   exact (hf b hb).2.2.2.2.2 p hp z
 have st':tn 0 h':=T.keep _ _ _ (T.keep _ _ _ st fun b _ o e=>kp3 b o e) fun b _ o e=>kp b o e
 have fr':∀ b ∈ fpi,upd H s.heap.objs.size (.lst []) b=none:=fun b hb=>by
  obtain ⟨o,e⟩:=he b hb
  rw [aZ (Nat.ne_of_lt (Heap.lt_size e))]
  exact (hf b hb).1
 -- what is at hand in the block
 have O0:=kf O own.length (cap.map (·.2)) (tds ts).length fun _ _=>trivial
 have F0:Fine Hf H Hf H []:=⟨List.nodup_nil,fun _ m=>by simp at m,F.fh,Same.refl _,Same.refl _,fun a o e=>.inl ⟨o,e⟩⟩
 have S0:SR Hf H (upd H s.heap.objs.size (.lst [])) (some (.ref s.heap.objs.size)::(List.replicate own.length none ++ cap.map fun p=>(σ[p.2]?).join)) (some (.lst .o [])::(List.replicate own.length none ++ cap.map fun p=>bn ρ p.2)):=by
  refine SR.laidL (us:=[]) (es:=[]) ?_ F0 .nil (fun _ m=>by simp at m) hfr
  rw [List.map_map,List.map_map] at O0
  have e1:(fun j=>((tvs ts ++ σ)[(tds ts).length + j]?).join) ∘ (fun (p:Str × Nat)=>p.2)=fun p=>(σ[p.2]?).join:=by
   funext p
   show ((tvs ts ++ σ)[(tds ts).length + p.2]?).join=_
   rw [kY,<- kX ts,lS]
  have e2:(fun j=>bn ((tds ts ++ ρ).drop (tds ts).length) j) ∘ (fun (p:Str × Nat)=>p.2)=fun p=>bn ρ p.2:=by
   funext p
   show bn ((tds ts ++ ρ).drop (tds ts).length) p.2=_
   rw [List.drop_left]
  rw [e1,e2] at O0
  exact O0
 have n0:noB (List.replicate own.length none ++ cap.map fun p=>bn ρ p.2):=fun d m=>by
  rcases List.mem_append.mp m with m | m
  ·rw [List.mem_replicate] at m;cases m.2
  ·obtain ⟨p,_,e⟩:=List.mem_map.mp m
   unfold bn at e
   split at e
   ·split at e
    ·rename_i t;cases e;rw [t];decide
    ·cases e
   ·cases e
 have loop:=tK (Xc:=eI X scope (own ++ cap.map (·.1)) h3.objs.size (fL X scope h3.objs.size) s H fpi (X.pn ++ pins)) (elt:=elt) (target:=target) (iter:=iter) (ifs:=ifs) (scope:=scope) (pos:=pos) hc rfl iG iT iE T fpC ok IC st' fr' S0 n0 ho
  (R:=RR (.ref s.heap.objs.size) h3.objs.size) (fun σ' H' s' I' S'=>?_)
 ·exact codeAny_compStart_list loop (T.self X.A 0 _ _ _ st' loop)
 ·obtain ⟨m,hn,_⟩:=I'.loc
  have hC:H' h3.objs.size=none:=I'.free
  refine hRR _ _ s' H' m hn hle (fun h'' sb=>⟨?_,hC⟩) S'
  have un:Un (frs X.stack) fpi H H' s.heap s'.heap:=I'.base
  have hos:s'.os=s.os:=I'.os
  have un2:Un (frs X.stack) fpi H H' s.heap h'':=by
   have hne:∀ b o,s.heap.get? b=some o->b ≠ h3.objs.size:=fun b o e=>Nat.ne_of_lt (Nat.lt_of_lt_of_le (Heap.lt_size e) hle)
   refine ⟨fun b o e n hb hx=>(sb.2 b (hne b o e)).trans (un.keep b o e n hb hx),fun b o e n hb hx=>?_,un.free,fun b o e hx=>?_,un.tups,un.frzs,un.tbls⟩
   ·obtain ⟨sl,q⟩:=un.slot b o e n hb hx
    exact ⟨sl,(sb.2 b (hne b o e)).trans q⟩
   ·obtain ⟨o',q⟩:=un.there b o e hx
    exact ⟨o',(sb.2 b (hne b o e)).trans q⟩
  have hok:HOk X.prog X.w H' h'':=fun b u e=>by
   refine (I'.hok b u e).stay (fun c v hc q=>(sb.2 c ?_).trans q) (fun _ q=>q) fun _ _ q=>q
   rintro rfl
   rcases hc with rfl | hc
   ·rw [hC] at e;cases e
   ·rw [hC] at hc;cases hc
  exact I.call' (s':={ s' with heap:=h'' }) (ch:=fpi) hos un2 hok I'.bare fun b hb=>⟨(hf b hb).2.2.2.1,(hf b hb).2.1,(hf b hb).2.2.2.2.1,(hf b hb).2.2.2.2.2⟩
theorem dI {fi:ae->Res (List D)} {gt:D->ae->Res ae} {ft:ae->Res Bool} {fe:ae->Res D} (hc:X.calm=true) (CS:CompScope X scope own cap) (hi:FI X H0 Ex target iter fi)
    (inner:∀ C cells s0 H0 ex pn,(own ++ cap.map (·.1)).Nodup->FG (eI X scope (own ++ cap.map (·.1)) C cells s0 H0 ex pn) H0 target gt/\FTs (eI X scope (own ++ cap.map (·.1)) C cells s0 H0 ex pn) H0 ifs ft/\FE (eI X scope (own ++ cap.map (·.1)) C cells s0 H0 ex pn) H0 (fun _=>False) elt fe)
    (hs:∀ x,foldedSetIterable iter X.env x=pure x:=by intro _;rfl):FE X H0 Ex (.ListComp elt [⟨target,iter,ifs,0⟩] scope pos) (aL own.length (cap.map (·.2)) fi gt ft fe):=by
 refine ⟨?_⟩
 intro pins s σ H Q I h
 obtain ⟨Hs,ρ,ts,S,p⟩:=h
 rw [eval_ListComp]
 refine wpAny_comprehension_free (use:=none) rfl hs (iY fun x hx hk=>I.ok.has x.1 (CS.free x hx hk)) CS.kind (fun x hx hl=>by rw [<- hl];exact fg CS.nd hx) ?_
 refine thn (hi.go pins s σ H (fun J H'=>∃ Hf fp items,gD J Hf items/\Own Hf H' fp (tvs ts ++ σ) (tds ts ++ ρ)/\Fine Hs H0 Hf H' fp/\∃ out,bF gt ft fe items (List.replicate own.length none ++ cap.map fun p=>bn ρ p.2) []=.ok out/\∀ v H',SX Hs H0 H' ((v,.lst .o out)::ts) σ ρ->Q v H') I ⟨Hs,ρ,ts,S,?_⟩) fun xv s1 h1=>thn h1 fun itv s2 h2=>?_
 ·unfold aL at p
  refine (Post.bind p).imp fun items _ p1 J H' Hf fp ok O F=>?_
  rw [List.map_map] at p1
  cases e:bF gt ft fe items (List.replicate own.length none ++ cap.map fun p=>bn ρ p.2) [] with
  | ok out =>
   have e':bF gt ft fe items (List.replicate own.length none ++ cap.map (bn ρ ∘ fun p=>p.2)) []=.ok out:=e
   rw [e'] at p1
   exact ⟨Hf,fp,items,ok,O,F,out,e,p1⟩
  | exc C =>
   have e':bF gt ft fe items (List.replicate own.length none ++ cap.map (bn ρ ∘ fun p=>p.2)) []=.exc C:=e
   rw [e'] at p1;exact p1.elim
  | bad =>
   have e':bF gt ft fe items (List.replicate own.length none ++ cap.map (bn ρ ∘ fun p=>p.2)) []=.bad:=e
   rw [e'] at p1;exact p1.elim
 ·obtain ⟨it,fpi,tn,J,H2,rfl,I2,T,st,hf,Hf,fp,items,ok,O,F,out,ho,k⟩:=h2
  refine mr (RR:=fun acc C=>compPost (model X.prog X.w) X.A X.xe none (EP X pins σ Q) acc C) hc CS inner I2 T st hf ok O F ho ?_
  intro Da C s' H' m hn hC hI S'
  refine ⟨m,hn,fun h'' sb=>?_⟩
  exact ⟨.ref Da,H',(hI h'' sb).1,rfl,k _ H' (SR.told O F S' (fun z=>nomatch z))⟩
end
section
variable {X:Cx} {Ex:Value->Prop} {H0:Hp} {elt target iter:Expr} {ifs:List Expr} {scope:Scope} {pos:Pos} {own:List Str} {cap:List (Str × Nat)}
theorem ek {i:Nat} {x:Str} {px pc:Pos} {fi:ae->Res (List D)} {gt:D->ae->Res ae} {ft:ae->Res Bool} {fe:ae->Res D} (hN:X.N.Nodup) (hi':X.N[i]?=some x) (hx:Loc X.env.scope x) (hc:X.calm=true) (CS:CompScope X scope own cap) (hi:FI X H0 Ex target iter fi)
    (inner:∀ C cells s0 H0 ex pn,(own ++ cap.map (·.1)).Nodup->FG (eI X scope (own ++ cap.map (·.1)) C cells s0 H0 ex pn) H0 target gt/\FTs (eI X scope (own ++ cap.map (·.1)) C cells s0 H0 ex pn) H0 ifs ft/\FE (eI X scope (own ++ cap.map (·.1)) C cells s0 H0 ex pn) H0 (fun _=>False) elt fe)
    (hsw:swapsWith (.ListComp elt [⟨target,iter,ifs,0⟩] scope pc) (some (.Name x px)) pos.line X.env=pure true:=by rfl)
    (hf:X.fn x=true \/ X.env.scope.names.lookup x=some .local:=by first | exact .inl rfl | exact .inr rfl | assumption)
    (hs:∀ x,foldedSetIterable iter X.env x=pure x:=by intro _;rfl):FS X H0 Ex (.Assign [.Name x px] (.ListComp elt [⟨target,iter,ifs,0⟩] scope pc) pos) (aq i (aL own.length (cap.map (·.2)) fi gt ft fe)):=by
 refine ⟨?_⟩
 intro pins s σ H En I h
 obtain ⟨Hs,ρ,⟨S,n⟩,p⟩:=h
 rw [exec_Assign_Name_used _ _ _ _ hsw]
 refine wpAny_bind (wpAny_standAt (wpAny_bind ?_))
 show wpAny _ X.A (do let _ <- comprehension (.ListComp elt [⟨target,iter,ifs,0⟩] scope pc) scope X.env _ (newList []) false (eval iter X.env) (some (assign (.Name x px) X.env))) _ _ s
 refine wpAny_bind (wpAny_mono (wpAny_comprehension_free (use:=some (assign (.Name x px) X.env)) (Q:=fun _ s'=>SP X pins En .next s') rfl hs (iY fun x hx hk=>I.ok.has x.1 (CS.free x hx hk)) CS.kind (fun x hx hl=>by rw [<- hl];exact fg CS.nd hx) ?_) (fun _ s' hq=>wpAny_pure (wpAny_pure hq)) fun _ _ e=>e)
 have p:=PostS.aft p
 refine thn (hi.go pins s σ H (fun J H'=>∃ Hf fp items,gD J Hf items/\Own Hf H' fp σ ρ/\Fine Hs H0 Hf H' fp/\i < ρ.length/\∃ out,bF gt ft fe items (List.replicate own.length none ++ cap.map fun p=>bn ρ p.2) []=.ok out/\∀ σ' H',SS Hs H0 H' σ' (ρ.set i (some (.lst .o out)))->En.nx σ' H') I ⟨Hs,ρ,[],S,?_⟩) fun xv s1 h1=>thn h1 fun itv s2 h2=>?_
 ·unfold aL at p
  refine (Post.bind p).imp fun items _ p1 J H' Hf fp ok O F=>?_
  rw [List.map_map] at p1
  cases e:bF gt ft fe items (List.replicate own.length none ++ cap.map fun p=>bn ρ p.2) [] with
  | ok out =>
   have e':bF gt ft fe items (List.replicate own.length none ++ cap.map (bn ρ ∘ fun p=>p.2)) []=.ok out:=e
   rw [e'] at p1
   have p1:PostS Hs H0 Ex En (if (D.lst .o out).tag=.b \/ ρ.length <= i then .bad else .nx (ρ.set i (some (.lst .o out)))):=p1
   split at p1
   ·exact p1.elim
   ·rename_i hcc
    refine ⟨Hf,fp,items,ok,O,F,?_,out,e,p1⟩
    by_cases hl:ρ.length <= i
    ·exact absurd (.inr hl) hcc
    ·omega
  | exc C =>
   have e':bF gt ft fe items (List.replicate own.length none ++ cap.map (bn ρ ∘ fun p=>p.2)) []=.exc C:=e
   rw [e'] at p1;exact p1.elim
  | bad =>
   have e':bF gt ft fe items (List.replicate own.length none ++ cap.map (bn ρ ∘ fun p=>p.2)) []=.bad:=e
   rw [e'] at p1;exact p1.elim
 ·obtain ⟨it,fpi,tn,J,H2,rfl,I2,T,st,hf2,Hf,fp,items,ok,O,F,hil,out,ho,k⟩:=h2
  refine mr (ts:=[]) (RR:=fun acc C=>compPost (model X.prog X.w) X.A X.xe (some (assign (.Name x px) X.env)) (fun _ s'=>SP X pins En .next s') acc C) hc CS inner I2 T st hf2 ok O F ho ?_
  intro Da C s' H' m hn hC hI S'
  have I':Inv X pins σ H' s':=(hI s'.heap (Heap.SameBut.refl ..)).1
  have hHC:H' C=none:=(hI s'.heap (Heap.SameBut.refl ..)).2
  have S'':SX Hs H0 H' [(.ref Da,.lst .o out)] σ ρ:=SR.told O F S' (fun z=>nomatch z)
  have hCL:C ≠ X.env.locals:=Nat.ne_of_gt (Nat.lt_of_lt_of_le I2.lt hC)
  have hCc:∀ y c,X.env.cells.lookup y=some c->c ≠ C:=fun y c e=>by
   obtain ⟨v,q⟩:=I2.cell y c e
   exact Nat.ne_of_lt (Nat.lt_of_lt_of_le q.lt hC)
  show wpAny (model X.prog X.w) X.A (assign (.Name x px) X.env (.ref Da)) _ X.xe s'
  refine wpAny_assign_Name (nV (v:=.ref Da) I' hN hi' hx rfl (fun s3 I3 ⟨a,sb,ha⟩=>?_) hf)
  have hCa:C ≠ a:=by
   rcases ha with ha | ha
   ·rw [ha];exact hCL
   ·exact (hCc x a ha).symm
  refine ⟨m,hn.sameBut sb hCa,fun h'' sb2=>?_⟩
  refine ⟨_,H',I3.turned (t':=s3.toks) (it:=C) (fun b o hb e=>(sb2.2 b hb).trans e) hHC hCL (.inr (Nat.le_trans I2.sz hC)) hCc (fun p hp=>?_),k _ H' (SR.set0 S'' (fun z=>nomatch z) n hil)⟩
  exact Nat.ne_of_lt (Nat.lt_of_lt_of_le (Heap.lt_size (I2.pin p hp).1) hC)
theorem vz {st:Stmt} {g:ae->FOut} (i:Nat) (h:FS X H0 Ex st g):FS X H0 Ex st (fun ρ=>match g ρ with | .nx ρ'=>.nx (frzAt i ρ') | r=>r):=by
 refine ⟨PS.pre h.go ?_⟩
 rintro En σ H ⟨Hs,ρ,S,p⟩
 refine ⟨Hs,ρ,S,?_⟩
 dsimp only at p
 cases e:g ρ with
 | nx ρ'=>rw [e] at p;exact fun σ' H' S'=>p σ' H' (S'.1.frzAt S'.2 i)
 | rt d=>rw [e] at p;exact p
 | bk ρ'=>rw [e] at p;exact p
 | ct ρ'=>rw [e] at p;exact p
 | exc C=>rw [e] at p;exact p
 | bad=>rw [e] at p;exact p
theorem gE {st:Stmt} {f:ae->Res D} {i:Nat} (h:FS X H0 Ex st (aq i f)):FS X H0 Ex st (aq i (fFz f)):=by
 have h1:=vz i h
 have:(fun ρ=>match aq i f ρ with | .nx ρ'=>.nx (frzAt i ρ') | r=>r)=aq i (fFz f):=by
  funext ρ
  unfold aq fFz
  cases f ρ with
  | bad=>rfl
  | exc C=>rfl
  | ok d =>
   show (match (if d.tag=.b \/ ρ.length <= i then FOut.bad else .nx (ρ.set i (some d))) with | .nx ρ'=>.nx (frzAt i ρ') | r=>r)=aft (if d.tag=.b then .bad else .ok d.fz) _
   by_cases hb:d.tag=.b
   ·rw [if_pos (.inl hb),if_pos hb];rfl
   ·rw [if_neg hb]
    show _=(if d.fz.tag=.b \/ ρ.length <= i then FOut.bad else .nx (ρ.set i (some d.fz)))
    by_cases hl:ρ.length <= i
    ·rw [if_pos (.inr hl),if_pos (.inr hl)]
    ·rw [if_neg (fun z=>z.elim hb hl),if_neg (fun z=>z.elim (by rw [d.fz_tag];decide) hl)]
     show FOut.nx (frzAt i (ρ.set i (some d)))=_
     unfold frzAt
     rw [List.getElem?_set_self (by omega)]
     show FOut.nx ((List.set ρ i (some d)).set i (some d.fz))=_
     rw [List.set_set]
 rw [this] at h1
 exact h1
end
noncomputable def spF (n:Nat) (F:List D->Res D):Sp:=fun vs H Q E=>∃ Hs ds,ds.length=n/\Same Hs H/\Reps Hs vs ds/\(∀ d ∈ ds,d.tag=.f)/\match F ds with
 | .ok d=>∀ v H',SR Hs H H' [some v] [some d]->Q v H'
 | .exc C=>∀ H',Same H H'->E C none H'
 | .bad=>False
noncomputable def fA (F:List D->Res D) (es:List D):Res D:=match F (D.fzs es) with
 | .ok d=>if (nb es=true/\d.tag ≠ .b) \/ d.atom=true then .ok d else .bad
 | r=>r
theorem SR.allRep {Hs H0 H:Hp} {vs:List (Option V)} {ds:List (Option D)}:∀ {us:List V} {es:List D},us.length=es.length->SR Hs H0 H (hv us ++ vs) (hd es ++ ds)->Reps H us es:=by
 intro us
 induction us using List.reverseRecOn' with
 | nil=>intro es hl S;cases es with | nil=>exact .nil | cons a b=>simp at hl
 | snoc us u ih =>
  intro es hl S
  cases es using List.reverseRecOn' with
  | nil=>simp at hl
  | snoc es e =>
   rw [ny,nz] at S
   exact (ih (by simpa using hl) S.drop).append (.cons S.head .nil)
theorem vA {H H':Hp} {v:V} {d:D} (h:Rep H v d) (a:d.atom=true):Rep H' v d:=by
 cases h <;> first | exact .non | exact .bl | exact .int | exact .str | cases a
theorem vB {d:D} (a:d.atom=true):d.tag=.f:=by cases d <;> first | rfl | cases a
theorem k7 (es:List D):(D.fzs es).length=es.length:=by rw [D.fzs_map,List.length_map]
section
variable {X:Cx} {Ex:Value->Prop} {H0:Hp} {CX:CXT} {k n:Nat} {f:Addr} {fd:FuncData} {ps:List Str} {F:List D->Res D} {x:Str} {p pos:Pos} {e:Expr} {es:List Expr}
noncomputable abbrev Exk (H0:Hp) (Ex:Value->Prop):XK:=fun C _ H'=>Ex C/\Same H0 H'
theorem pz {us:List V} {ds:List D} {Hs H1:Hp} {ts:List (V × D)} {σ:St} {ρ:ae} {Q:VK} (hn:ds.length=n) (hl:us.length=ds.length) (S1:SX Hs H0 H1 (held us ds ts) σ ρ) (p1:Post Ex (fA F ds) fun d=>∀ v H',SX Hs H0 H' ((v,d)::ts) σ ρ->Q v H') :
    spF n F us H1 Q (Exk H0 Ex):=by
 have S2:=SX.held hl S1
 unfold fA at p1
 cases eF:F (D.fzs ds) with
 | bad=>rw [eF] at p1;exact p1.elim
 | exc C =>
  rw [eF] at p1
  exact ⟨H1,D.fzs ds,by rw [k7];exact hn,Same.refl _,(SR.allRep hl S2).fz,jf ds,by rw [eF];exact fun H' s=>⟨p1,S2.same.trans s⟩⟩
 | ok d =>
  rw [eF] at p1
  have p1:Post Ex (if (nb ds=true/\d.tag ≠ .b) \/ d.atom=true then Res.ok d else .bad) fun d=>∀ v H',SX Hs H0 H' ((v,d)::ts) σ ρ->Q v H':=p1
  split at p1
  ·rename_i hc
   by_cases hb:nb ds=true/\d.tag ≠ .b
   ·obtain ⟨Hf,fp,O,G,R⟩:=S2.frozen hl (mn hb.1)
    exact ⟨Hf,D.fzs ds,by rw [k7];exact hn,G.fh,R,jf ds,by rw [eF];exact fun v H' S'=>p1 v H' (SR.told O G S' hb.2)⟩
   ·have ha:d.atom=true:=hc.resolve_left hb
    refine ⟨H1,D.fzs ds,by rw [k7];exact hn,Same.refl _,(SR.allRep hl S2).fz,jf ds,?_⟩
    rw [eF]
    intro v H' S'
    have S3:SX Hs H0 H1 ts σ ρ:=by
     have:∀ (us:List V) (ds:List D),us.length=ds.length->SR Hs H0 H1 (hv us ++ (tvs ts ++ σ)) (hd ds ++ (tds ts ++ ρ))->SR Hs H0 H1 (tvs ts ++ σ) (tds ts ++ ρ):=by
      intro us
      induction us using List.reverseRecOn' with
      | nil=>intro es hl S;cases es with | nil=>exact S | cons a b=>simp at hl
      | snoc us u ih =>
       intro es hl S
       cases es using List.reverseRecOn' with
       | nil=>simp at hl
       | snoc es e=>rw [ny,nz] at S;exact ih es (by simpa using hl) S.drop
     exact this us ds hl S2
    exact p1 v H' ((SR.grow S3 S'.same).atom (fun H=>vA S'.head ha) (vB ha))
  ·exact p1.elim
theorem xb {fa:ae->Res (List D)} (G:FnOk X.prog X.w X.K X.mg X.base CX k f fd ps (spF n F)) (hr:Room k X.A) (hg:Gl X x) (hm:X.mg x=some (.ref f)) (hk:PySem.W.keepIn X.K (.ref f)=true) (hb:Binds X.K fd ps []) (hx:gW CX X (Exk H0 Ex))
    (ha:FA X H0 Ex (e::es) fa) (hn:(e::es).length=n) (hdb:(x == ("__debug__" : Str))=false:=by decide) (he:starEach (e::es) X.env=(false,eval e X.env)::starEach es X.env:=by rfl) (hpl:(backTo pos (starEach es X.env)).any (·.1)=false:=by rfl) :
    FE X H0 Ex (.Call (.Name x p) (e::es) [] pos) (fun ρ=>fa ρ >>= fun ds=>if ds.length=n then fA F ds else .bad):=by
 refine ⟨PE.pre (qU (dvs:=[]) (E:=Exk H0 Ex) G hr hg hm hk hb .nil hx ha.go hdb he hpl) ?_⟩
 rintro σ H Q ⟨Hs,ρ,ts,S,p⟩
 refine ⟨Hs,ρ,ts,S,(Post.bind p).imp fun ds _ p1 us H1 hl S1=>?_⟩
 split at p1
 ·rename_i hds
  rw [List.append_nil]
  exact pz hds hl S1 p1
 ·exact p1.elim
noncomputable def aN (N:Nat) (g:ae->FOut) (ds:List D):Res D:=match g (ds.map some ++ List.replicate (N - ds.length) none) with
 | .rt d=>.ok d
 | .nx _=>.ok .non
 | .exc C=>.exc C
 | _=>.bad
theorem ik {Hs H:Hp}:∀ {vs:List V} {ds:List D} (k:Nat),Reps Hs vs ds->(∀ d ∈ ds,d.tag=.f)->Own Hs H [] (vs.map some ++ List.replicate k none) (ds.map some ++ List.replicate k none)
 | _,_,0,.nil,_=>.nil
 | _,_,k + 1,.nil,h=>.skip (ik k .nil h)
 | _,_,k,.cons r q,h=>Own.cons (fp:=[]) (.fz r (h _ List.mem_cons_self)) (ik k q fun d m=>h d (List.mem_cons_of_mem _ m))
theorem Fun.okX {P:Program} {w:World} {K:PySem.W.Frag} {mg:Str->Option Value} {base:Heap} {x qual:Str} {st:Stmt} {f:Addr} {fd:FuncData} {N ps:List Str} {k:Nat} {sp:Sp} (F:Fun K x qual st f fd) (S:FnScope N ps (aA st)) (len:∀ vs H Q E,sp vs H Q E->vs.length=ps.length)
    (hbody:∀ (cdv:Value) (A:Around) (outer:List Env) (s:Shared) (H:Hp) (vs:List V) (Q:VK) (E:XK),Room k (A.deeper (envOfC qual (aA st) s.heap.objs.size f cdv))->sp vs H Q E →
     ∃ t,PSs (jA CX P w K mg base N qual (aA st) f cdv A outer s H E) (cE st) t/\t { nx:=fun _ H'=>Q .non H',rt:=Q } (gR N vs) H):FnOk P w K mg base CX (k + 1) f fd ps sp:=by
 obtain ⟨oc,od,kV,doc,pm,an,cdv,ct,osl,rfl,lk,hcd⟩:=F.ex
 exact zZ lk hcd S len fun A outer s H vs Q E hr hsp=>hbody cdv A outer s H vs Q E hr hsp
theorem qY {P:Program} {w:World} {K:PySem.W.Frag} {mg:Str->Option Value} {base:Heap} {x qual:Str} {st:Stmt} {f:Addr} {fd:FuncData} {N ps:List Str} {k:Nat} {F:List D->Res D} (U:Fun K x qual st f fd) (S:FnScope N ps (aA st))
    (hbody:∀ (cdv:Value) (A:Around) (outer:List Env) (s:Shared) (H:Hp) (E:XK) (ds:List D),Room k (A.deeper (envOfC qual (aA st) s.heap.objs.size f cdv))->ds.length=ps.length->(∀ C,F ds=.exc C->∀ H',Same H H'->E C none H') →
     ∃ g,FSs (jA CX P w K mg base N qual (aA st) f cdv A outer s H E) H (fun C=>F ds=.exc C) (cE st) g/\F ds=aN N.length g ds) :
    FnOk P w K mg base CX (k + 1) f fd ps (spF ps.length F):=by
 refine Fun.okX U S (fun vs H Q E h=>?_) (fun cdv A outer s H vs Q E hr h=>?_)
 ·obtain ⟨Hs,ds,hl,_,R,_⟩:=h
  rw [R.length];exact hl
 ·obtain ⟨Hs,ds,hl,sH,R,ht,p⟩:=h
  obtain ⟨g,hg,eF⟩:=hbody cdv A outer s H E ds hr hl (fun C eC H' sh=>by rw [eC] at p;exact p H' sh)
  refine ⟨_,hg.go,Hs,ds.map some ++ List.replicate (N.length - ds.length) none,⟨⟨Hs,[],?_,List.nodup_nil,fun _ m=>by simp at m,sH,Same.refl _,Same.refl _,fun a o e=>.inl ⟨o,e⟩⟩,?_⟩,?_⟩
  ·have:=ik (Hs:=Hs) (H:=H) (N.length - ds.length) R ht
   unfold L2.gR
   rw [R.length]
   exact this
  ·intro d m
   rcases List.mem_append.mp m with m | m
   ·obtain ⟨d',m',e⟩:=List.mem_map.mp m
    cases e
    rw [ht d m'];decide
   ·rw [List.mem_replicate] at m;cases m.2
  ·unfold aN at eF
   cases eg:g (ds.map some ++ List.replicate (N.length - ds.length) none) with
   | rt d =>
    rw [eg] at eF
    have eF:F ds=.ok d:=eF
    rw [eF] at p
    exact fun v H' S'=>p v H' S'
   | nx ρ' =>
    rw [eg] at eF
    have eF:F ds=.ok .non:=eF
    rw [eF] at p
    refine fun σ' H' S'=>p .non H' ?_
    exact SR.only (vs':=[]) (ds':=[]) S'.1.non
   | exc C=>rw [eg] at eF;exact eF
   | bk ρ'=>rw [eg] at eF;have eF:F ds=.bad:=eF;rw [eF] at p;exact p.elim
   | ct ρ'=>rw [eg] at eF;have eF:F ds=.bad:=eF;rw [eF] at p;exact p.elim
   | bad=>rw [eg] at eF;have eF:F ds=.bad:=eF;rw [eF] at p;exact p.elim
end
section
variable {X:Cx} {Ex:Value->Prop} {H0:Hp} {a b c e:Expr} {rest:List Expr} {f fa fb fc:ae->Res D} {ta tb:ae->Res Bool} {pos:Pos}
noncomputable def asB:D->Res Bool
 | .bl b=>.ok b
 | _=>.bad
noncomputable def ftB (f:ae->Res D):ae->Res Bool:=fun ρ=>f ρ >>= asB
theorem pA {d:D} {k:Bool->Prop} (p:Post Ex (asB d) k):∃ b,d=.bl b/\k b:=by
 cases d with
 | bl b=>exact ⟨b,rfl,p⟩
 | _=>exact p.elim
theorem kg (h:FE X H0 Ex e f) (he:∀ whole,isTrue e X.env whole=(do let v <- whole;standAt e.pos;holding [v] (truthy v)):=by intro _;rfl):FT X H0 Ex e (ftB f):=by
 refine ⟨PT.pre (ya h.go he) ?_⟩
 rintro σ H Q ⟨Hs,ρ,ts,S,p⟩
 refine ⟨Hs,ρ,ts,S,(Post.bind p).imp fun d _ p1 v H1 S1=>?_⟩
 obtain ⟨b,rfl,k⟩:=pA p1
 exact ⟨b,SR.isBl S1,k H1 S1.drop⟩
noncomputable def ft2 (g:D->D->Res D) (fa fb:ae->Res D):ae->Res Bool:=fun ρ=>f2 g fa fb ρ >>= asB
theorem aT {op:CmpOp} {g:D->D->Res D} (ho:FOp X (compareOp op) g) (hg:∀ x y,noX (g x y)=true) (ha:FE X H0 Ex a fa) (hb:FE X H0 Ex b fb) (hm:behindInMarks op b=false):FT X H0 Ex (.Compare a [op] [b] pos) (ft2 g fa fb):=by
 refine ⟨PT.pre (wR ho.go ha.go hb.go hm) ?_⟩
 rintro σ H Q ⟨Hs,ρ,ts,S,p⟩
 refine o3 hg (op:=compareOp op) ⟨Hs,ρ,ts,S,(Post.bind p).imp fun d _ p1 v H1 S1=>?_⟩
 obtain ⟨b,rfl,k⟩:=pA p1
 exact ⟨b,SR.isBl S1,k H1 S1.drop⟩
noncomputable def bh (t:ae->Res Bool):ae->Res Bool:=fun ρ=>t ρ >>= fun b=>.ok (!b)
theorem gl (h:FT X H0 Ex a ta):FT X H0 Ex (.UnaryOp .Not a pos) (bh ta):=by
 refine ⟨PT.pre (yd h.go) ?_⟩
 rintro σ H Q ⟨Hs,ρ,ts,S,p⟩
 exact ⟨Hs,ρ,ts,S,(Post.bind p).imp fun b _ p1 H1 S1=>p1 H1 S1⟩
structure FW (X:Cx) (H0:Hp) (Ex:Value->Prop) (e:Expr) (f:ae->Res Bool):Prop where
 go:PW X e (TTF H0 Ex f)
theorem PW.pre {t t':TT} (h:PW X e t) (i:∀ σ H Q,t' σ H Q->t σ H Q):PW X e t':=fun wh pins s σ H Q I q=>h wh pins s σ H Q I (i σ H Q q)
theorem FW.ft (h:FW X H0 Ex e ta):FT X H0 Ex e ta:=⟨PW.pt h.go⟩
theorem ge (h:FT X H0 Ex a ta):FW X H0 Ex (.BoolOp .And [a] pos) ta:=⟨wK h.go⟩
theorem kh (h:FT X H0 Ex a ta):FW X H0 Ex (.BoolOp .Or [a] pos) ta:=⟨yb h.go⟩
noncomputable def cW (s t:ae->Res Bool):ae->Res Bool:=fun ρ=>s ρ >>= fun b=>if b=true then t ρ else .ok false
noncomputable def fV (s t:ae->Res Bool):ae->Res Bool:=fun ρ=>s ρ >>= fun b=>if b=true then .ok true else t ρ
theorem gY (ha:FT X H0 Ex a ta) (hb:FW X H0 Ex (.BoolOp .And (b::rest) pos) tb):FW X H0 Ex (.BoolOp .And (a::b::rest) pos) (cW ta tb):=by
 refine ⟨PW.pre (yc ha.go hb.go) ?_⟩
 rintro σ H Q ⟨Hs,ρ,ts,S,p⟩
 refine ⟨Hs,ρ,ts,S,(Post.bind p).imp fun b _ p1 H1 S1=>?_⟩
 cases b with
 | true=>rw [if_pos rfl] at p1 ⊢;exact ⟨Hs,ρ,ts,S1,p1⟩
 | false=>rw [if_neg Bool.false_ne_true] at p1 ⊢;exact p1 H1 S1
theorem ms (ha:FT X H0 Ex a ta) (hb:FW X H0 Ex (.BoolOp .Or (b::rest) pos) tb):FW X H0 Ex (.BoolOp .Or (a::b::rest) pos) (fV ta tb):=by
 refine ⟨PW.pre (zJ ha.go hb.go) ?_⟩
 rintro σ H Q ⟨Hs,ρ,ts,S,p⟩
 refine ⟨Hs,ρ,ts,S,(Post.bind p).imp fun b _ p1 H1 S1=>?_⟩
 cases b with
 | true=>rw [if_pos rfl] at p1 ⊢;exact p1 H1 S1
 | false=>rw [if_neg Bool.false_ne_true] at p1 ⊢;exact ⟨Hs,ρ,ts,S1,p1⟩
noncomputable def iH (s t:ae->Res D):ae->Res D:=fun ρ=>s ρ >>= fun d=>asB d >>= fun b=>if b=true then t ρ else .ok (.bl false)
theorem mt {op} (h:FE X H0 Ex a f):FE X H0 Ex (.BoolOp op [a] pos) f:=⟨ye h.go⟩
theorem vC {d:D} {α:Type} {g:Bool->Res α} {k:α->Prop} (p:Post Ex (asB d >>= g) k):∃ b,d=.bl b/\Post Ex (g b) k:=by
 cases d with
 | bl b=>exact ⟨b,rfl,p⟩
 | _=>exact p.elim
theorem km (ha:FE X H0 Ex a fa) (hb:FE X H0 Ex (.BoolOp .And (b::rest) pos) fb):FE X H0 Ex (.BoolOp .And (a::b::rest) pos) (iH fa fb):=by
 refine ⟨PE.pre (yf ha.go hb.go) ?_⟩
 rintro σ H Q ⟨Hs,ρ,ts,S,p⟩
 refine ⟨Hs,ρ,ts,S,(Post.bind p).imp fun d _ p1 v H1 S1=>?_⟩
 obtain ⟨b,rfl,k⟩:=vC p1
 refine ⟨b,SR.isBl S1,?_⟩
 cases b with
 | true=>rw [if_pos rfl] at k ⊢;exact ⟨Hs,ρ,ts,S1.drop,k⟩
 | false=>rw [if_neg Bool.false_ne_true] at k ⊢;exact k _ H1 S1.drop.bl
noncomputable def fIf (t:ae->Res Bool) (f g:ae->Res D):ae->Res D:=fun ρ=>t ρ >>= fun b=>if b=true then f ρ else g ρ
theorem pB (hc:FT X H0 Ex c ta) (ha:FE X H0 Ex a fa) (hb:FE X H0 Ex b fb):FE X H0 Ex (.IfExp c a b pos) (fIf ta fa fb):=by
 refine ⟨PE.pre (uW hc.go ha.go hb.go) ?_⟩
 rintro σ H Q ⟨Hs,ρ,ts,S,p⟩
 refine ⟨Hs,ρ,ts,S,(Post.bind p).imp fun b _ p1 H1 S1=>?_⟩
 cases b with
 | true=>rw [if_pos rfl] at p1 ⊢;exact ⟨Hs,ρ,ts,S1,p1⟩
 | false=>rw [if_neg Bool.false_ne_true] at p1 ⊢;exact ⟨Hs,ρ,ts,S1,p1⟩
noncomputable def jG:D->Res D
 | .int i=>.ok (.int (-i))
 | _=>.bad
noncomputable def f1 (g:D->Res D) (fa:ae->Res D):ae->Res D:=fun ρ=>fa ρ >>= g
theorem pC (ha:FE X H0 Ex a fa):FE X H0 Ex (.UnaryOp .USub a pos) (f1 jG fa):=by
 refine ⟨PE.pre (zR yr ha.go) ?_⟩
 rintro σ H Q ⟨Hs,ρ,ts,S,p⟩
 refine ⟨Hs,ρ,ts,S,(Post.bind p).imp fun d _ p1 v H1 S1=>?_⟩
 cases d with
 | int i=>exact ⟨i,SR.isInt S1,p1 _ H1 S1.drop.int⟩
 | _=>exact p1.elim
theorem eJ {us:List V} {es:List D} {d:D} (hl:us.length=es.length) (h:es=[d]):∃ u,us=[u]:=by
 subst h
 cases us with
 | nil=>simp at hl
 | cons u r=>cases r with | nil=>exact ⟨u,rfl⟩ | cons _ _=>simp at hl
theorem mw {us:List V} {es:List D} {d d':D} (hl:us.length=es.length) (h:es=[d,d']):∃ u w,us=[u,w]:=by
 subst h
 cases us with
 | nil=>simp at hl
 | cons u r=>cases r with | nil=>simp at hl | cons w r=>cases r with | nil=>exact ⟨u,w,rfl⟩ | cons _ _=>simp at hl
noncomputable def aR:List D->Res D
 | [.lst _ xs]=>.ok (.int xs.length)
 | [.tup xs]=>.ok (.int xs.length)
 | [.str z]=>if z.length <= sizeLine then .ok (.int z.length) else .bad
 | [.scr ns]=>.ok (.int ns.length)
 | _=>.bad
theorem ba:∀ es,noX (aR es)=true:=by
 intro es
 unfold aR
 split <;> first | rfl | (split <;> rfl)
theorem bA:FCall X (.builtin "len") aR:=by
 refine ⟨CallR.pre (CallR.or ph pi) ?_⟩
 rintro us H Q ⟨Hs,H0,vs,ds,es,d,hl,S,e,k⟩
 unfold aR at e
 split at e
 ·rename_i t xs
  obtain ⟨u,rfl⟩:=eJ hl rfl
  cases e
  have S':SR Hs H0 H (some u::vs) (some (.lst t xs)::ds):=S
  have hh:=S'.head
  cases hh with
  | lst q R=>exact .inl ⟨_,_,rfl,.inl (SqL.of q),by rw [R.length];exact k _ H S'.drop.int⟩
 ·rename_i xs
  obtain ⟨u,rfl⟩:=eJ hl rfl
  cases e
  have S':SR Hs H0 H (some u::vs) (some (.tup xs)::ds):=S
  have hh:=S'.head
  cases hh with
  | tup q R=>exact .inl ⟨_,_,rfl,.inr (SqT.of q),by rw [R.length];exact k _ H S'.drop.int⟩
 ·rename_i z
  obtain ⟨u,rfl⟩:=eJ hl rfl
  split at e
  ·rename_i hz
   cases e
   have S':SR Hs H0 H (some u::vs) (some (.str z)::ds):=S
   cases SR.isStr S'
   exact .inr ⟨z,rfl,hz,k _ H S'.drop.int⟩
  ·cases e
 ·rename_i ns
  obtain ⟨u,rfl⟩:=eJ hl rfl
  cases e
  have S':SR Hs H0 H (some u::vs) (some (.scr ns)::ds):=S
  have hh:=S'.head
  cases hh with
  | scr q=>exact .inl ⟨_,_,rfl,.inl (.inl (.inr ⟨_,q⟩)),by rw [List.length_map];exact k _ H S'.drop.int⟩
 ·cases e
noncomputable def bz:List D->Res D
 | [d]=>match d.its with
  | some ys=>.ok (.lst .o ys)
  | none=>.bad
 | _=>.bad
theorem cY:∀ es,noX (bz es)=true:=by
 intro es
 unfold bz
 split
 ·split <;> rfl
 ·rfl
theorem dY:FCall X (.type "list") bz:=by
 refine ⟨CallR.pre pj ?_⟩
 rintro us H Q ⟨Hs,H0,vs,ds,es,d,hl,S,e,k⟩
 unfold bz at e
 split at e
 ·rename_i d1
  split at e
  ·rename_i ys hy
   cases e
   obtain ⟨u,rfl⟩:=eJ hl rfl
   have S':SR Hs H0 H (some u::vs) (some d1::ds):=S
   obtain ⟨a,us,rfl,ha,Hf,fp,O,F,R⟩:=S'.items hy
   refine ⟨a,us,rfl,?_,fun l hl=>k _ _ (SR.laidL O F R (D.its_tag hy) hl)⟩
   cases hi:d1.isL with
   | true=>rw [hi] at ha;exact .inl (SqL.of ha)
   | false=>rw [hi] at ha;exact .inr (SqT.of ha)
  ·cases e
 ·cases e
theorem cR {T:String} {x:Str} {p:Pos} {es:List Expr} {g:List D->Res D} {fa:ae->Res (List D)} (hc:FCall X (.type T) g) (hn:∀ es,noX (g es)=true) (hg:Gl X x) (hm:X.mg x=none) (hv:bootBuiltins x=some (.type T)) (ha:FA X H0 Ex (e::es) fa)
    (hn':x ≠ "__name__" := by decide) (hdb:(x == ("__debug__" : Str))=false:=by decide) (h1:starEach (e::es) X.env=(false,eval e X.env)::starEach es X.env:=by rfl) (h2:(backTo pos (starEach es X.env)).any (·.1)=false:=by rfl):FE X H0 Ex (.Call (.Name x p) (e::es) [] pos) (fCB g fa):=
 ⟨PE.pre (kb hc.go hg hm hv ha.go hn' hdb h1 h2) fun _ _ _ h=>tH hn h⟩
noncomputable def jH:List D->Res D
 | [.int i,.int j]=>.ok (.int (if j < i then j else i))
 | _=>.bad
noncomputable def k8:List D->Res D
 | [.int i,.int j]=>.ok (.int (if j > i then j else i))
 | _=>.bad
theorem tL:∀ es,noX (jH es)=true:=by intro es;unfold jH;split <;> rfl
theorem tM:∀ es,noX (k8 es)=true:=by intro es;unfold k8;split <;> rfl
theorem xc (hc:X.calm=true):FCall X (.builtin "min") jH:=by
 refine ⟨CallR.pre (tf hc) ?_⟩
 rintro us H Q ⟨Hs,H0,vs,ds,es,d,hl,S,e,k⟩
 unfold jH at e
 split at e
 ·rename_i i j
  cases e
  obtain ⟨u,w,rfl⟩:=mw hl rfl
  have S':SR Hs H0 H (some w::some u::vs) (some (.int j)::some (.int i)::ds):=S
  cases SR.isInt S'
  cases SR.isInt S'.drop
  exact ⟨i,j,rfl,k _ H S'.drop.drop.int⟩
 ·cases e
theorem xf (hc:X.calm=true):FCall X (.builtin "max") k8:=by
 refine ⟨CallR.pre (sZ hc) ?_⟩
 rintro us H Q ⟨Hs,H0,vs,ds,es,d,hl,S,e,k⟩
 unfold k8 at e
 split at e
 ·rename_i i j
  cases e
  obtain ⟨u,w,rfl⟩:=mw hl rfl
  have S':SR Hs H0 H (some w::some u::vs) (some (.int j)::some (.int i)::ds):=S
  cases SR.isInt S'
  cases SR.isInt S'.drop
  exact ⟨i,j,rfl,k _ H S'.drop.drop.int⟩
 ·cases e
noncomputable def iI:List D->Res D
 | [.int i]=>.ok (.int i)
 | [.bl k]=>.ok (.int (if k then 1 else 0))
 | _=>.bad
theorem pD:∀ es,noX (iI es)=true:=by intro es;unfold iI;split <;> rfl
theorem tN:FCall X (.type "int") iI:=by
 refine ⟨CallR.pre tm ?_⟩
 rintro us H Q ⟨Hs,H0,vs,ds,es,d,hl,S,e,k⟩
 unfold iI at e
 split at e
 ·rename_i i
  cases e
  obtain ⟨u,rfl⟩:=eJ hl rfl
  have S':SR Hs H0 H (some u::vs) (some (.int i)::ds):=S
  cases SR.isInt S'
  exact .inl ⟨i,rfl,k _ H S'.drop.int⟩
 ·rename_i i
  cases e
  obtain ⟨u,rfl⟩:=eJ hl rfl
  have S':SR Hs H0 H (some u::vs) (some (.bl i)::ds):=S
  cases SR.isBl S'
  exact .inr ⟨i,rfl,k _ H S'.drop.int⟩
 ·cases e
noncomputable def eR (neg:Bool):D->D->Res D:=fun x y=>match x,y with
 | .int i,.int j=>.ok (.bl (neg != decide (i=j)))
 | .str i,.str j=>.ok (.bl (neg != decide (i=j)))
 | .bl i,.bl j=>.ok (.bl (neg != decide (i=j)))
 | _,_=>.bad
theorem fW (n:Bool):∀ x y,noX (eR n x y)=true:=by intro x y;unfold eR;split <;> rfl
theorem yQ:FOp X (compareOp .Eq) (eR false):=by
 refine ⟨OpR.pre zS ?_⟩
 rintro x y H Q ⟨Hs,H0,vs,ds,d1,d2,d,S,e,k⟩
 unfold eR at e
 split at e
 ·rename_i i j
  cases e;cases SR.isInt S;cases SR.isInt S.drop
  refine ⟨rfl,?_⟩
  have:decide (V.int i=V.int j)=(false != decide (i=j)):=by simp
  rw [this];exact k _ H S.drop.drop.bl
 ·rename_i i j
  cases e;cases SR.isStr S;cases SR.isStr S.drop
  refine ⟨rfl,?_⟩
  have:decide (V.str i=V.str j)=(false != decide (i=j)):=by simp
  rw [this];exact k _ H S.drop.drop.bl
 ·rename_i i j
  cases e;cases SR.isBl S;cases SR.isBl S.drop
  refine ⟨rfl,?_⟩
  have:decide (V.bl i=V.bl j)=(false != decide (i=j)):=by simp
  rw [this];exact k _ H S.drop.drop.bl
 ·cases e
theorem jh:FOp X (compareOp .NotEq) (eR true):=by
 refine ⟨OpR.pre zT ?_⟩
 rintro x y H Q ⟨Hs,H0,vs,ds,d1,d2,d,S,e,k⟩
 unfold eR at e
 split at e
 ·rename_i i j
  cases e;cases SR.isInt S;cases SR.isInt S.drop
  refine ⟨rfl,?_⟩
  have:(!decide (V.int i=V.int j))=(true != decide (i=j)):=by simp
  rw [this];exact k _ H S.drop.drop.bl
 ·rename_i i j
  cases e;cases SR.isStr S;cases SR.isStr S.drop
  refine ⟨rfl,?_⟩
  have:(!decide (V.str i=V.str j))=(true != decide (i=j)):=by simp
  rw [this];exact k _ H S.drop.drop.bl
 ·rename_i i j
  cases e;cases SR.isBl S;cases SR.isBl S.drop
  refine ⟨rfl,?_⟩
  have:(!decide (V.bl i=V.bl j))=(true != decide (i=j)):=by simp
  rw [this];exact k _ H S.drop.drop.bl
 ·cases e
theorem SR.recv {Hs H0 H:Hp} {σ:St} {ρ:ae} (S:SR Hs H0 H σ ρ) {i:Nat} {t:Tg} {xs:List D} (e:ρ[i]?=some (some (.lst t xs))):∃ p us,σ[i]?=some (some (.ref p))/\H p=some (.lst us)/\us.length=xs.length:=by
 obtain ⟨v,hv,S'⟩:=S.get e
 have h:=S'.head
 cases t with
 | f=>cases h with | lst q R=>exact ⟨_,_,hv,q,R.length⟩
 | o=>cases h with | lst q R=>exact ⟨_,_,hv,q,R.length⟩
 | b=>cases h with | lst q R=>exact ⟨_,_,hv,q,R.length⟩
noncomputable def c7 (i:Nat) (f:ae->Res D):ae->FOut:=fun ρ=>match ρ[i]? with
 | some (some (.lst .o xs))=>aft (f ρ) fun d=>if d.tag=.b \/ sizeLine <= xs.length then .bad else .nx (ρ.set i (some (.lst .o (xs ++ [d]))))
 | _=>.bad
theorem gZ {i:Nat} {x:Str} {p1 p2 p3:Pos} (hv:PV X (.Name x p1) i) (he:FE X H0 Ex e f)
    (hbase:attributeBase (.Name x p1) "append" X.env (eval (.Name x p1) X.env)=eval (.Name x p1) X.env:=by rfl)
    (hfew:((backTo p3 (starEach [e] X.env)).all (fun x=>!x.1) && (backToKw p3 (keywordEach [] X.env)).all (fun x=>x.1.isSome) && decide (([e]:List Expr).length + ([]:List Keyword).length + (if ([]:List Keyword).isEmpty then 0 else 1) < 30))=true:=by rfl)
    (hline:(p2.endLine == p3.line)=true:=by rfl) (hplain:(backTo p3 (starEach [] X.env)).any (·.1)=false:=by rfl) (hs1:starEach [e] X.env=(false,eval e X.env)::starEach [] X.env:=by rfl)
    (hsw:swapsWith (.Call (.Attribute (.Name x p1) "append" p2) [e] [] p3) none pos.line X.env=pure false:=by rfl) :
    FS X H0 Ex (.Expr (.Call (.Attribute (.Name x p1) "append" p2) [e] [] p3) pos) (c7 i f):=by
 refine ⟨PS.pre (kR (kW PySem.F.plainAttrs_list PySem.F.slot_list_append PySem.F.type_list_append kc hv.go (dw he.go eG hs1) hbase hfew hline hs1 hplain) hsw) ?_⟩
 rintro En σ H ⟨Hs,ρ,⟨S,n⟩,p⟩
 unfold c7 at p
 split at p
 ·rename_i xs hx
  obtain ⟨q,us,hq,hH,hl⟩:=S.recv hx
  refine ⟨.ref q,hq,.inl ⟨rfl,us,SqL.of hH⟩,Hs,ρ,[],S,(PostS.aft p).imp fun d _ p1 v H1 S1=>?_⟩
  split at p1
  ·exact p1.elim
  ·rename_i hc
   have S1:SR Hs H0 H1 (some v::σ) (some d::ρ):=S1
   obtain ⟨q',us',hq',hH',hl',S2⟩:=S1.append (fun z=>hc (.inl z)) n hx
   rw [hq] at hq'
   cases hq'
   refine ⟨q,us',v,rfl,rfl,hH',?_,p1 σ _ ⟨S2,n.set fun d' z=>by cases z;exact fun y=>nomatch y⟩⟩
   rw [hl']
   exact Nat.lt_of_not_le fun z=>hc (.inr z)
 ·exact p.elim
noncomputable def eK (i:Nat) (fk f:ae->Res D):ae->FOut:=fun ρ=>match ρ[i]? with
 | some (some (.lst .o xs))=>aft (f ρ) fun d=>aft (fk ρ) fun k=>match k with
  | .int j=>match ixN xs.length j with
   | some m=>if d.tag=.b then .bad else .nx (ρ.set i (some (.lst .o (xs.set m d))))
   | none=>.bad
  | _=>.bad
 | _=>.bad
theorem jI {i:Nat} {x:Str} {p1:Pos} {k:Expr} {p2:Pos} {fk:ae->Res D} (hv:PV X (.Name x p1) i) (he:FE X H0 Ex e f) (hk:FE X H0 Ex k fk)
    (ha:∀ v,assign (.Subscript (.Name x p1) k p2) X.env v=(do
     let ov <- holding [v] (eval (.Name x p1) X.env)
     let iv <- holding [v,ov] (eval k X.env)
     standAt p2
     holding [v,ov,iv] (setItem ov iv v)
     release [v,ov,iv] []):=by intro _;rfl)
    (hs:swapsWithSole [.Subscript (.Name x p1) k p2] e pos.line X.env=pure false:=by rfl) (hw:swappedStores [.Subscript (.Name x p1) k p2] e X.env=pure none:=by rfl)
    (h1:(assignEach [.Subscript (.Name x p1) k p2] X.env).map (·.2)=[assign (.Subscript (.Name x p1) k p2) X.env]:=by rfl) :
    FS X H0 Ex (.Assign [.Subscript (.Name x p1) k p2] e pos) (eK i fk f):=by
 refine ⟨PS.pre (sU he.go (sT hv.go hk.go vg ha) hs hw h1) ?_⟩
 rintro En σ H ⟨Hs,ρ,⟨S,n⟩,p⟩
 unfold eK at p
 split at p
 ·rename_i xs hx
  obtain ⟨q,us,hq,hH,hl⟩:=S.recv hx
  refine ⟨Hs,ρ,[],S,(PostS.aft p).imp fun d _ p1 v H1 S1=>⟨.ref q,hq,Hs,ρ,[(v,d)],S1,(PostS.aft p1).imp fun kd _ p2 w H2 S2=>?_⟩⟩
  have S2:SR Hs H0 H2 (some w::some v::σ) (some kd::some d::ρ):=S2
  split at p2
  ·rename_i j _ _
   split at p2
   ·rename_i m hm
    split at p2
    ·exact p2.elim
    ·rename_i hc
     cases SR.isInt S2
     have hml:m < xs.length:=(kT hm).2.1
     obtain ⟨q',us',hq',hH',hl',S3⟩:=S2.drop.setAt hc n hx hml
     rw [hq] at hq'
     cases hq'
     exact ⟨q,us',j,m,rfl,rfl,hH',by rw [hl'];exact hm,p2 σ _ ⟨S3,n.set fun d' z=>by cases z;exact fun y=>nomatch y⟩⟩
   ·exact p2.elim
  ·exact p2.elim
 ·exact p.elim
end
noncomputable def fB (ns:List Int):List Int:=ns.mergeSort fun a b=>decide (a <= b)
theorem gm (ns:List Int):(fB ns).Perm ns:=List.mergeSort_perm ns _
theorem kn (ns:List Int):(fB ns).Pairwise (· <= ·):=by
 have:=List.pairwise_mergeSort (le:=fun a b:Int=>decide (a <= b)) (fun a b c h1 h2=>by simp at *;omega) (fun a b=>by simp;omega) ns
 exact this.imp fun h=>by simpa using h
noncomputable def dA:List D->Option (List Int)
 | []=>some []
 | .int i::r=>(dA r).map (i::·)
 | _=>none
theorem lB:∀ {ds:List D} {ns:List Int},dA ds=some ns->ds=ns.map D.int
 | [],_,h=>by simp [dA] at h;subst h;rfl
 | .int i::r,ns,h=>by
  simp only [dA,Option.map_eq_some_iff] at h
  obtain ⟨m,hm,rfl⟩:=h
  rw [lB hm];rfl
 | .non::_,_,h | .bl _::_,_,h | .str _::_,_,h | .lst _ _::_,_,h | .tup _::_,_,h | .dic _ _::_,_,h | .ins _ _ _::_,_,h | .exc _::_,_,h | .scr _::_,_,h | .slf _ _ _::_,_,h=>by cases h
theorem jJ (ns:List Int):dA (ns.map D.int)=some ns:=by
 induction ns with
 | nil=>rfl
 | cons n ns ih=>simp [dA,ih]
theorem oi {H:Hp}:∀ {us:List V} {ns:List Int},Reps H us (ns.map D.int)->us=ns.map V.int
 | _,[],.nil=>rfl
 | _,n::ns,.cons h r=>by cases h;rw [oi r];rfl
theorem pE {H:Hp} (ns:List Int):Reps H (ns.map V.int) (ns.map D.int):=by
 induction ns with
 | nil=>exact .nil
 | cons n ns ih=>exact .cons .int ih
section
variable {X:Cx} {Ex:Value->Prop} {H0:Hp} {e:Expr} {pos:Pos}
theorem lV:CallR X (.builtin "sorted") (fun xs H Q=>∃ p ns,xs=[.ref p]/\SqL X.K H p (ns.map V.int)/\ns.length < 64/\∀ l,H l=none->Q (.ref l) (upd H l (.lst ((fB ns).map V.int)))):=by
 intro pins s σ H xs us Q I r h
 obtain ⟨p,ns,rfl,hq,h64,q⟩:=h
 obtain ⟨u,rfl,rx⟩:=iX r
 cases rx
 obtain ⟨its,rv,pl,hz⟩:=I.list hq
 have hI:IntsAre its ns:=jB rv
 have hl:=rv.length
 rw [List.length_map] at hl hz
 refine sorted_ints pl.isList hI (by omega) fun out ns' a1 a2 a3=>?_
 have en:ns'=fB ns:=PySem.W.ksm_same (a2.trans (gm ns).symm) a3 (kn ns)
 subst en
 obtain ⟨e,he⟩:=sortedAll_at s.heap its out
 have hfresh:H (s.heap.objs.size + 1)=none:=I.hok.fresh (Nat.le_succ _)
 refine ⟨.ref (s.heap.objs.size + 1),_,I.laid (t':=s.toks) (fun b o h=>sortedAll_old h) (Nat.le_succ _) (?_:ObjOk X.prog X.w _ _ _ (.lst ((fB ns).map V.int))),rfl,q _ hfresh⟩
 refine ⟨?_,out.toList,e,ke a1,he⟩
 rw [List.length_map,(gm ns).length_eq]
 exact hz
noncomputable def em:List D->Res D
 | [d]=>match d.its with
  | some ys=>match dA ys with
   | some ns=>if d.isL=true/\ns.length < 64 then .ok (.lst .o ((fB ns).map D.int)) else .bad
   | none=>.bad
  | none=>.bad
 | _=>.bad
theorem pF:∀ es,noX (em es)=true:=by
 intro es
 unfold em
 split
 ·split
  ·split
   ·split <;> rfl
   ·rfl
  ·rfl
 ·rfl
theorem rV:FCall X (.builtin "sorted") em:=by
 refine ⟨CallR.pre lV ?_⟩
 rintro us H Q ⟨Hs,H0,vs,ds,es,d,hl,S,e,k⟩
 unfold em at e
 split at e
 ·rename_i d1
  split at e
  ·rename_i ys hy
   split at e
   ·rename_i ns hn
    split at e
    ·rename_i hc
     cases e
     obtain ⟨u,rfl⟩:=eJ hl rfl
     have S':SR Hs H0 H (some u::vs) (some d1::ds):=S
     obtain ⟨a,us,rfl,ha,Hf,fp,O,F,R⟩:=S'.items hy
     rw [hc.1] at ha
     have hys:=lB hn
     subst hys
     have hus:=oi R
     subst hus
     exact ⟨a,ns,rfl,SqL.of ha,hc.2,fun l hl=>k _ _ (SR.laidL O F (pE _) (fun e m=>by obtain ⟨i,_,rfl⟩:=List.mem_map.mp m;rfl) hl)⟩
    ·cases e
   ·cases e
  ·cases e
 ·cases e
noncomputable def Ac (ta:TA):TE:=fun σ H Q=>ta σ H fun vs H1=>∃ j:Int,vs=[.int j]/\∀ p,H1 p=none->Q (.ref p) (upd H1 p (.rng 0 j))
theorem xg {a:Expr} {ta:TA} {p:Pos} (hg:Gl X "range") (hm:X.mg "range" = none) (ha:PA X [a] ta) (hs:starEach [a] X.env=[(false,eval a X.env)]:=by rfl):PE X (.Call (.Name "range" p) [a] [] pos) (Ac ta):=by
 intro pins s σ H Q I h
 refine Call_ (iD I hg hm boot_range (PyProof.Rows.callWith_type1 (thn (ha pos pins s σ H _ I h) fun us s1 ⟨vs,H1,I1,r1,q1⟩=>?_) hs rfl))
 obtain ⟨j,e,q⟩:=q1
 subst e
 cases r1 with
 | cons r rr =>
  cases rr
  obtain ⟨t,rfl⟩:=r
  refine call_range_1 ⟨.ref s1.heap.objs.size,_,I1.laid (fun b o e=>Heap.get?_push_of_some _ e) (Nat.le_refl _) (?_:ObjOk X.prog X.w _ _ _ (.rng 0 j)),rfl,q _ (I1.hok.fresh (Nat.le_refl _))⟩
  exact ⟨_,_,_,Heap.get?_push_size _ rfl⟩
theorem oR (hc:X.calm=true):CallR X (.type "list") (fun xs H Q=>∃ p lo hi,xs=[.ref p]/\H p=some (.rng lo hi)/\-(2 ^ 62) <= lo/\lo < 2 ^ 62/\-(2 ^ 62) <= hi/\hi < 2 ^ 62/\(hi - lo).toNat <= 1000000/\∀ l,H l=none->Q (.ref l) (upd H l (.lst ((List.range (hi - lo).toNat).map fun (i:Nat)=>V.int (lo + (i:Int)))))):=by
 intro pins s σ H xs us Q I r h
 obtain ⟨p,lo,hi,rfl,hp,h1,h2,h3,h4,h5,q⟩:=h
 obtain ⟨u,rfl,rx⟩:=iX r
 cases rx
 obtain ⟨t,u,v,hr⟩:=I.hok p _ hp
 have hn:Builtin.Range.rangeSize lo hi 1=((hi - lo).toNat:Nat):=by rw [rangeSize_one];split <;> omega
 refine call_list_range (n:=(hi - lo).toNat) (I.ok.hd hc) (show IsRange s.heap p lo hi 1 t u v from hr) (small_one h1 h2 h3 h4) hn (by omega) fun h' tk acc c' kp e hS=>?_
 refine ⟨.ref s.heap.objs.size,_,I.laid kp (Nat.le_refl _) (?_:ObjOk X.prog X.w _ _ _ (.lst _)),rfl,q _ (I.hok.fresh (Nat.le_refl _))⟩
 refine ⟨?_,acc.toList,c',?_,by simpa using e⟩
 ·rw [List.length_map,List.length_range,sizeLine_eq];omega
 ·obtain ⟨z1,z2⟩:=hS
  have go:∀ (n k:Nat) (l:List Value),l.length=n->(∀ j v,l[j]?=some v->∃ t,v=Value.int (lo + ((k + j:Nat):Int) * 1) t)->Vals ((List.range' k n).map fun (i:Nat)=>V.int (lo + (i:Int))) l:=by
   intro n
   induction n with
   | zero=>intro k l hl _;cases l with | nil=>exact .nil | cons a b=>simp at hl
   | succ n ih =>
    intro k l hl hv
    cases l with
    | nil=>simp at hl
    | cons a b =>
     rw [List.range'_succ,List.map_cons]
     obtain ⟨t,ha⟩:=hv 0 a rfl
     refine .cons ⟨t,by rw [ha];congr 1;simp⟩ (ih (k + 1) b (by simpa using hl) fun j v hj=>?_)
     obtain ⟨t',hb⟩:=hv (j + 1) v (by simpa using hj)
     exact ⟨t',by rw [hb,show k + (j + 1)=k + 1 + j by omega]⟩
  have:=go (hi - lo).toNat 0 acc.toList (by simpa using z1) fun j v hj=>by
   obtain ⟨t,e⟩:=z2 j v (by simpa using hj)
   exact ⟨t,by rw [e,Nat.zero_add]⟩
  rw [List.range_eq_range']
  exact this
noncomputable def eO (fa:ae->Res (List D)):ae->Res D:=fun ρ=>bW fa ρ >>= fun items=>if items.length <= 1000000 then .ok (.lst .o items) else .bad
theorem rW {H:Hp} (lo:Int) (n:Nat):Reps H ((List.range n).map fun (i:Nat)=>V.int (lo + (i:Int))) (a7 lo n):=by
 unfold a7
 induction List.range n with
 | nil=>exact .nil
 | cons a b ih=>exact .cons .int ih
theorem oj {a:Expr} {p p' q q':Pos} {fa:ae->Res (List D)} (hc:X.calm=true) (hg:Gl X "range") (hm:X.mg "range" = none) (hgl:Gl X "list") (hml:X.mg "list" = none) (ha:FA X H0 Ex [a] fa) (hs:starEach [a] X.env=[(false,eval a X.env)]:=by rfl)
    (h1:starEach [.Call (.Name "range" p) [a] [] q] X.env=(false,eval (.Call (.Name "range" p) [a] [] q) X.env)::starEach [] X.env:=by rfl) (h2:(backTo q' (starEach [] X.env)).any (·.1)=false:=by rfl) :
    FE X H0 Ex (.Call (.Name "list" p') [.Call (.Name "range" p) [a] [] q] [] q') (eO fa):=by
 refine ⟨PE.pre (kb (oR hc) hgl hml (by decide +kernel) (dw (xg hg hm ha.go hs) eG h1) (by decide) (by decide) h1 h2) ?_⟩
 rintro σ H Q ⟨Hs,ρ,ts,S,pp⟩
 unfold eO bW at pp
 refine ⟨Hs,ρ,ts,S,(Post.bind (Post.bind pp)).imp fun es _ p1 us H1 hl S1=>?_⟩
 split at p1
 ·rename_i j _
  split at p1
  ·rename_i hcc
   simp at hcc
   have p1:Post Ex (if (a7 0 j.toNat).length <= 1000000 then Res.ok (D.lst .o (a7 0 j.toNat)) else .bad) fun d=>∀ v H',SX Hs H0 H' ((v,d)::ts) σ ρ->Q v H':=p1
   split at p1
   ·rename_i hlen
    obtain ⟨u,rfl⟩:=eJ hl rfl
    have S2:SR Hs H0 H1 (some u::(tvs ts ++ σ)) (some (.int j)::(tds ts ++ ρ)):=SX.held hl S1
    cases SR.isInt S2
    refine ⟨j,rfl,fun r hr=>?_⟩
    have sm:Same H1 (upd H1 r (.rng 0 j)):=fun b o e=>by rw [aZ (bB e hr)];exact e
    obtain ⟨Hf,fp,O,F⟩:=S2.drop.grow sm
    have hlen:j.toNat <= 1000000:=by simpa [a7] using hlen
    refine ⟨r,0,j,rfl,bC,by omega,by omega,by omega,by omega,by simpa using hlen,fun l hl=>p1 _ _ ?_⟩
    have:=SR.laidL O F (rW 0 (j - 0).toNat) (fun e m=>by obtain ⟨i,_,rfl⟩:=List.mem_map.mp m;rfl) hl
    rw [show j - 0=j by omega] at this ⊢
    exact this
   ·exact p1.elim
  ·exact p1.elim
 ·exact p1.elim
noncomputable def Ad (h0 h:Heap) (H:Hp) (a:Addr) (C:Value):Prop:=∃ oe vs T oT ts,h.get? a=some oe/\oe.cls=C/\oe.data=.fields vs/\vs[1]?=some (.ref T)/\T ≠ a/\h.get? T=some oT/\oT.data=.fields ts/\ts[3]?=some .none/\H a=none/\H T=none/\h0.get? a=none/\h0.get? T=none
noncomputable def CXm (P:Program) (w:World):CXT:=fun outer H s E e s'=>∃ a C H',e=.ref a/\s'.os=s.os/\AllBare s'.gens/\Un (frs outer) [] H H' s.heap s'.heap/\HOk P w H' s'.heap/\Ad s.heap s'.heap H' a C/\E C none H'
theorem db {CX:CXT} {P:Program} {w:World} {K:PySem.W.Frag} {mg:Str->Option Value} {base:Heap} {N:List Str} {qual:Str} {scope:Scope} {f:Addr} {cd:Value} {A:Around} {outer:List Env} {s:Shared} {H:Hp} {E:XK}:Po (jA CX P w K mg base N qual scope f cd A outer s H E):=⟨PassesOwn.leaving⟩
theorem xh {X:Cx} {P:Program} {w:World}:gW (CXm P w) X (fun _ _ _=>False):=fun _ _ _ _ _ _ _ h=>by
 obtain ⟨_,_,_,_,_,_,_,_,_,z⟩:=h
 exact z.elim
structure Cal (P:Program) (w:World) (K:PySem.W.Frag) (mg:Str->Option Value) (base:Heap) (x:Str) (n:Nat) (F:List D->Res D) (k:Nat):Prop where
 ex:∃ f fd ps,FnOk P w K mg base (CXm P w) k f fd ps (spF n F)/\mg x=some (.ref f)/\PySem.W.keepIn K (.ref f)=true/\Binds K fd ps []
structure Df (K:PySem.W.Frag) (mg:Str->Option Value) (x:Str) (st:Stmt) (ps:List Str):Prop where
 ex:∃ f fd,Fun K x x st f fd/\mg x=some (.ref f)/\Binds K fd ps []
noncomputable def au (n:Nat) (F:List D->Res D) (fa:ae->Res (List D)):ae->Res D:=fun ρ=>fa ρ >>= fun ds=>if ds.length=n then fA F ds else .bad
theorem CompScope.of {X:Cx} {scope:Scope} {own:List Str} {cap:List (Str × Nat)} (h1:scope.kind=.function) (h2:(scope.names.map (·.1)).Nodup) (h3:(scope.names.all fun x=>!(x.2 == .free) || X.env.kindOf x.1 == some .cell || X.env.kindOf x.1 == some .free)=true)
    (h4:(cap.all fun p=>X.N[p.2]? == some p.1 && scope.names.lookup p.1 == some .free)=true) (h5:(own ++ cap.map (·.1)).Nodup):CompScope X scope own cap where
 kind:=h1
 nd:=h2
 free:=fun x hx hk=>by
  have:=List.all_eq_true.mp h3 x hx
  rw [hk] at this
  simp at this
  exact this
 capN:=fun p hp=>by
  have:=List.all_eq_true.mp h4 p hp
  simp at this
  exact this
 ndN:=h5
end
theorem tP {P:Program} {w:World} {H:Hp} {h:Heap} {a:Addr} {o:HO} (x:ObjOk P w H h a o):∃ u,h.get? a=some u:=by
 cases o with
 | lst xs=>obtain ⟨_,_,_,_,e⟩:=x;exact ⟨_,e⟩
 | tup xs=>obtain ⟨_,_,_,o,e,_⟩:=x;exact ⟨_,e⟩
 | dK kvs=>obtain ⟨_,_,_,_,o,_,_,e,_⟩:=x;exact ⟨_,e⟩
 | dT kvs=>obtain ⟨_,_,_,_,o,_,_,e,_⟩:=x;exact ⟨_,e⟩
 | set S n=>obtain ⟨o,_,_,_,e,_⟩:=x;exact ⟨_,e⟩
 | ins C dx fs=>obtain ⟨_,_,_,e,_⟩:=x;exact ⟨_,e⟩
 | own y=>obtain ⟨_,e⟩:=x;exact ⟨_,e⟩
 | xd fs=>obtain ⟨_,⟨_,_,_,e,_⟩,_⟩:=x;exact ⟨_,e⟩
 | rng lo hi=>obtain ⟨_,_,_,e⟩:=x;exact ⟨_,e⟩
 | frz ob u=>obtain ⟨e,_⟩:=x;exact ⟨_,e⟩
 | tbl ps=>exact ⟨_,(show h.get? a=some _ from x)⟩
 | met f y=>exact ⟨_,(show h.get? a=some _ from x)⟩
 | ext φ=>obtain ⟨_,⟨_,e⟩,_⟩:=x;exact ⟨_,e⟩
theorem ko {base h h':Heap} {fs:List Addr} {H1 H':Hp} (u:Un fs [] H1 H' h h'):∀ {l:List Env},(∀ b ∈ frs l,b ∈ fs)->(∀ b ∈ frs l,H1 b=none)->h.FunFrames base l->h'.FunFrames base l
 | [],_,_,_=>trivial
 | env::r,hs,hn,⟨hk,⟨L,o,hf,hb,ho,hd⟩,hr⟩=>by
  have mem:frs (env::r)=L::frs r:=by unfold frs;rw [List.filterMap_cons,hf]
  have hL:L ∈ frs (env::r):=by rw [mem];exact List.mem_cons_self
  obtain ⟨sl,e⟩:=u.slot L o ho (hn L hL) (hs L hL) (by simp)
  exact ⟨hk,⟨L,_,hf,hb,e,hd⟩,ko u (fun b m=>hs b (by rw [mem];exact List.mem_cons_of_mem _ m)) (fun b m=>hn b (by rw [mem];exact List.mem_cons_of_mem _ m)) hr⟩
section
variable {P:Program} {w:World} {K:PySem.W.Frag} {mg:Str->Option Value} {base:Heap} {N:List Str} {qual:Str} {scope:Scope} {f:Addr} {cd:Value} {A:Around} {outer:List Env} {s:Shared} {H:Hp} {E:XK}
noncomputable abbrev cxm (P:Program) (w:World) (K:PySem.W.Frag) (mg:Str->Option Value) (base:Heap) (N:List Str) (qual:Str) (scope:Scope) (f:Addr) (cd:Value) (A:Around) (outer:List Env) (s:Shared) (H:Hp) (E:XK):Cx:=jA (CXm P w) P w K mg base N qual scope f cd A outer s H E
theorem qZ {pins:List (Addr × Obj)} {σ:St} {H1 H':Hp} {s1 s':Shared} {a:Addr} {C:Value} {Ts:List Addr} {h'':Heap} (I:Inv (cxm P w K mg base N qual scope f cd A outer s H E) pins σ H1 s1)
    (u:Un (frs (cxm P w K mg base N qual scope f cd A outer s H E).stack) [] H1 H' s1.heap s'.heap) (hos:s'.os=s1.os) (bare:AllBare s'.gens) (hok:HOk P w H' s'.heap) (ha:H' a=none) (hna:s1.heap.get? a=none) (hT:∀ T ∈ Ts,H' T=none/\s1.heap.get? T=none)
    (FF:s'.heap.FunFrames base (cxm P w K mg base N qual scope f cd A outer s H E).stack)
    (L:Heap.Left (PySem.W.hideAll s'.heap (a::(Ts ++ frs (cxm P w K mg base N qual scope f cd A outer s H E).stack))) (cxm P w K mg base N qual scope f cd A outer s H E).stack a C s'.heap h'') (hE:E C none H'):CXm P w outer H s E (.ref a) { s' with heap:=h'' }:=by
 obtain ⟨st,ff,tr,sl⟩:=L
 have ib:Un (frs outer) [] H H1 s.heap s1.heap:=I.base
 have kB:∀ b o,s'.heap.get? b=some o->b ≠ a->b ∉ Ts->b ∉ frs (cxm P w K mg base N qual scope f cd A outer s H E).stack->h''.get? b=some o:=fun b o e h1 h2 h3=>st b o (PySem.W.hideAll_get _ e fun m=>by
  rcases List.mem_cons.mp m with z | m
  ·exact h1 z
  ·exact (List.mem_append.mp m).elim h2 h3)
 have frN:∀ b ∈ frs (cxm P w K mg base N qual scope f cd A outer s H E).stack,H' b=none:=fun b m=>by
  obtain ⟨_,o,ho,_⟩:=I.stack.mem m
  exact u.free b o ho (I.stkFree b m) (by simp)
 have eSt:frs (cxm P w K mg base N qual scope f cd A outer s H E).stack=s.heap.objs.size::frs outer:=rfl
 have ne1:∀ b o,s.heap.get? b=some o->b ≠ a/\b ∉ Ts:=fun b o e=>by
  obtain ⟨o1,e1⟩:=ib.there b o e (by simp)
  refine ⟨fun z=>?_,fun m=>?_⟩
  ·rw [z,hna] at e1;cases e1
  ·rw [(hT b m).2] at e1;cases e1
 have neL:∀ b o,s.heap.get? b=some o->b ≠ s.heap.objs.size:=fun b o e=>Nat.ne_of_lt (Heap.lt_size e)
 refine ⟨a,C,H',rfl,hos.trans I.os,bare,⟨fun b o e n hb _=>?_,fun b o e n hb _=>?_,fun b o e n _=>?_,fun b o e _=>?_,fun b xs e=>u.tups b xs (ib.tups b xs e),fun b o xs e=>u.frzs b o xs (ib.frzs b o xs e),fun b ps e=>?_⟩,fun b ob e=>?_,?_,hE⟩
 ·have nst:b ∉ frs (cxm P w K mg base N qual scope f cd A outer s H E).stack:=by
     rw [eSt];intro m;rcases List.mem_cons.mp m with z | m
     ·exact neL b o e z
     ·exact hb m
  exact kB b o (u.keep b o (ib.keep b o e n hb (by simp)) (ib.free b o e n (by simp)) nst (by simp)) (ne1 b o e).1 (ne1 b o e).2 nst
 ·have hst:b ∈ frs (cxm P w K mg base N qual scope f cd A outer s H E).stack:=by rw [eSt];exact List.mem_cons_of_mem _ hb
  obtain ⟨sl1,e1⟩:=ib.slot b o e n hb (by simp)
  obtain ⟨sl2,e2⟩:=u.slot b _ e1 (ib.free b o e n (by simp)) hst (by simp)
  obtain ⟨_,o',ho',hd⟩:=FF.mem hst
  rw [e2] at ho'
  cases ho'
  obtain ⟨sl3,e3⟩:=sl b _ e2 hd
  exact ⟨sl3,e3⟩
 ·obtain ⟨o1,e1⟩:=ib.there b o e (by simp)
  exact u.free b o1 e1 (ib.free b o e n (by simp)) (by simp)
 ·obtain ⟨o1,e1⟩:=ib.there b o e (by simp)
  obtain ⟨o2,e2⟩:=u.there b o1 e1 (by simp)
  by_cases hst:b ∈ frs (cxm P w K mg base N qual scope f cd A outer s H E).stack
  ·obtain ⟨_,o',ho',hd⟩:=FF.mem hst
   rw [e2] at ho'
   cases ho'
   obtain ⟨sl3,e3⟩:=sl b _ e2 hd
   exact ⟨_,e3⟩
  ·exact ⟨o2,kB b o2 e2 (ne1 b o e).1 (ne1 b o e).2 hst⟩
 ·obtain ⟨m1,e1⟩:=ib.tbls b ps e
  obtain ⟨m2,e2⟩:=u.tbls b _ e1
  exact ⟨m1 ++ m2,by rw [e2,Array.append_assoc]⟩
 ·refine (hok b ob e).stay (fun c v hc q=>kB c v q ?_ ?_ ?_) (fun _ q=>q) fun _ _ q=>q
  ·rintro rfl
   rcases hc with rfl | hc
   ·rw [ha] at e;cases e
   ·rw [ha] at hc;cases hc
  ·intro m
   rcases hc with rfl | hc
   ·rw [(hT c m).1] at e;cases e
   ·rw [(hT c m).1] at hc;cases hc
  ·intro m
   have:=frN c m
   rcases hc with rfl | hc
   ·rw [this] at e;cases e
   ·rw [this] at hc;cases hc
 ·obtain ⟨oe,vs,T,oT,ts,x1,x2,x3,x4,x5,x6,x7,x8,x9⟩:=tr
  have back:∀ b,s1.heap.get? b=none->s.heap.get? b=none:=fun b hb=>by
   cases q:s.heap.get? b with
   | none=>rfl
   | some o=>obtain ⟨o1,e1⟩:=ib.there b o q (by simp);rw [hb] at e1;cases e1
  refine ⟨oe,vs,T,oT,ts,x1,x2,x3,x4,x6,x7,x8,x9,ha,?_,back a hna,?_⟩
  all_goals
   by_cases hm:T ∈ Ts
   ·first
       | exact (hT T hm).1
       | exact back T (hT T hm).2
   ·have hst:T ∉ frs (cxm P w K mg base N qual scope f cd A outer s H E).stack:=fun m=>by
       obtain ⟨_,o',ho',hd⟩:=ff.mem m
       rw [x7] at ho'
       cases ho'
       exact hd _ x8
    have hn:s'.heap.get? T=none:=by
     cases q:s'.heap.get? T with
     | none=>rfl
     | some o =>
      have:=PySem.W.hideAll_get (a::(Ts ++ frs (cxm P w K mg base N qual scope f cd A outer s H E).stack)) q fun m=>by
       rcases List.mem_cons.mp m with z | m
       ·exact x6 z
       ·exact (List.mem_append.mp m).elim hm hst
      rw [this] at x5
      cases x5
    first
     | (cases q:H' T with
        | none=>rfl
        | some o=>obtain ⟨v,e⟩:=tP (hok T o q);rw [hn] at e;cases e)
     | (cases q:s.heap.get? T with
        | none=>rfl
        | some o =>
         obtain ⟨o1,e1⟩:=ib.there T o q (by simp)
         obtain ⟨o2,e2⟩:=u.there T o1 e1 (by simp)
         rw [hn] at e2;cases e2)
theorem xi {Ex:Value->Prop} {H0:Hp} (hE:∀ C H',Ex C->Same H0 H'->E C none H'):gW (CXm P w) (cxm P w K mg base N qual scope f cd A outer s H E) (Exk H0 Ex):=by
 intro pins σ H1 s1 e s' I h
 obtain ⟨a,C,H',rfl,hos,bare,u,hok,⟨oe,vs,T,oT,ts,x1,x2,x3,x4,x5,x6,x7,x8,x9,x10,x11,x12⟩,ex,sm⟩:=h
 have FF:s'.heap.FunFrames base (cxm P w K mg base N qual scope f cd A outer s H E).stack:=ko u (fun _ m=>m) (fun b m=>I.stkFree b m) I.stack
 show wpAny (model P w) (A.deeper (envOfC qual scope s.heap.objs.size f cd)) (leaving (envOfC qual scope s.heap.objs.size f cd) (.ref a)) _ _ s'
 refine wpAny_leaving_next (base:=PySem.W.hideAll s'.heap (a::([T] ++ frs (cxm P w K mg base N qual scope f cd A outer s H E).stack))) (outer:=outer) (L:=s.heap.objs.size) (cls:=C) I.ok.frames ?_ rfl
  ⟨oe,vs,T,oT,ts,x1,x2,x3,x4,PySem.W.hideAll_none _ (by simp),x5,x6,x7,x8⟩ (fun b o e=>PySem.W.of_hideAll _ e) (PySem.W.hideAll_none _ (by simp)) fun h'' L=>?_
 ·exact PySem.W.funFrames_hide FF fun env he b hb=>List.mem_cons_of_mem _ (List.mem_append_right _ (List.mem_filterMap.mpr ⟨env,he,hb⟩))
 ·exact qZ (Ts:=[T]) I u hos bare hok x9 x11 (fun T' m=>by simp at m;subst m;exact ⟨x10,x12⟩) FF L (hE C H' ex sm)
structure Pa (X:Cx) (H0:Hp) (Ex:Value->Prop):Prop where
 go:gW (CXm X.prog X.w) X (Exk H0 Ex)
theorem bc {Ex:Value->Prop} {H0:Hp} (hE:∀ C H',Ex C->Same H0 H'->E C none H'):Pa (cxm P w K mg base N qual scope f cd A outer s H E) H0 Ex:=⟨xi hE⟩
end
theorem aI {X:Cx} {H0:Hp} {Ex:Value->Prop} {x:Str} {n k:Nat} {F:List D->Res D} {p pos:Pos} {e:Expr} {es:List Expr} {fa:ae->Res (List D)} (c:Cal X.prog X.w X.K X.mg X.base x n F k) (hx:Pa X H0 Ex) (hr:Room k X.A) (hg:Gl X x) (ha:FA X H0 Ex (e::es) fa) (hn:(e::es).length=n:=by rfl)
    (hdb:(x == ("__debug__" : Str))=false:=by decide) (he:starEach (e::es) X.env=(false,eval e X.env)::starEach es X.env:=by rfl) (hpl:(backTo pos (starEach es X.env)).any (·.1)=false:=by rfl) :
    FE X H0 Ex (.Call (.Name x p) (e::es) [] pos) (au n F fa):=by
 obtain ⟨f,fd,ps,G,hm,hk,hb⟩:=c.ex
 exact xb G hr hg hm hk hb hx.go ha hn hdb he hpl
def k9:List Value:=[.type "ValueError", .type "Exception", .type "BaseException", .type "object"]
structure XCls (K:PySem.W.Frag) (mg:Str->Option Value) (x:Str) (C:Addr):Prop where
 bound:mg x=some (.ref C)
 obj:∀ h:Heap,K.In h->∃ bm N nm q bs hdct sn sub ab col dd k0 k1 k2 k3 k5 mN,h.get? C=some (excClassObj nm q C N bs bm hdct sn sub ab col dd k0 k1 k2 k3 k5 "ValueError.__new__")/\h.Ns N mN/\mN "__init__" = none/\OwnTail h k9 bm
theorem xj {K:PySem.W.Frag} {mg:Str->Option Value} {x:Str} {C:Addr} (hb:mg x=some (.ref C)) (hc:PySem.W.excIn K C k9 "ValueError.__new__" = true):XCls K mg x C:=by
 refine ⟨hb,fun h hK=>?_⟩
 unfold PySem.W.excIn at hc
 split at hc
 ·rename_i dd cl sl look
  split at hc
  ·rename_i C2 rest y0 y1 y2 y3 nn y5 hmro hslots
   simp only [Bool.and_eq_true,beq_iff_eq,Bool.not_eq_true'] at hc
   have c1:=hc.1.1.1.1.1
   have c2:=hc.1.1.1.1.2
   have c3:=hc.1.1.1.2
   have c4:=hc.1.1.2
   have c5:=hc.1.2
   have c6:=hc.2
   subst c1 c2
   have es:sl=#[y0,y1,y2,y3,some (.builtin "ValueError.__new__"),y5]:=Array.ext' hslots
   subst es
   have ob:=hK _ _ look
   cases cl
   dsimp only at hmro c3 c5 c6
   subst hmro c3
   exact ⟨rest,_,_,_,_,_,_,_,_,_,_,_,_,_,_,_,_,ob,.of_isNs (PySem.W.isNs_of_in hK c5),PySem.W.nsMap_none_of_in hK c5 c6,PySem.W.tail_of_in hK c4⟩
  ·cases hc
 ·cases hc
section
variable {P:Program} {w:World} {K:PySem.W.Frag} {mg:Str->Option Value} {base:Heap} {N:List Str} {qual:Str} {scope:Scope} {f:Addr} {cd:Value} {A:Around} {outer:List Env} {s:Shared} {H:Hp} {E:XK}
theorem dg {Ex:Value->Prop} {H0:Hp} {x:Str} {C:Addr} {words:Str} {j:Nat} {np p1 cpos pos:Pos} (O:XCls K mg x C) (hE:∀ C H',Ex C->Same H0 H'->E C none H') (hg:Gl (cxm P w K mg base N qual scope f cd A outer s H E) x) (hd:(x == ("__debug__" : Str))=false:=by decide)
    (hs1:starEach [.Constant (.str words) j p1] (cxm P w K mg base N qual scope f cd A outer s H E).env=(false,eval (.Constant (.str words) j p1) (cxm P w K mg base N qual scope f cd A outer s H E).env)::starEach [] (cxm P w K mg base N qual scope f cd A outer s H E).env:=by rfl) :
    FS (cxm P w K mg base N qual scope f cd A outer s H E) H0 Ex (.Raise (some (.Call (.Name x np) [.Constant (.str words) j p1] [] cpos)) none pos) (fun _=>.exc (.ref C)):=by
 refine ⟨?_⟩
 intro pins s1 σ H1 En I h
 obtain ⟨Hs,ρ,⟨S,n⟩,p⟩:=h
 have p:Ex (.ref C):=p
 obtain ⟨bm,Na,nm,q,bs,hdct,sn,sub,ab,col,dd,k0,k1,k2,k3,k5,mN,hC,hN,hni,T⟩:=O.obj base I.mod.kin
 have FB:=PySem.F.excBase_ValueError
 refine wpAny_Raise_call_subU (C:=C) (nm:=nm) (q:=q) (N:=Na) (bs:=bs) (bm:=bm) (hdct:=hdct) (sn:=sn) (sub:=sub) (ab:=ab) (col:=col) (dd:=dd) (k0:=k0) (k1:=k1) (k2:=k2) (k3:=k3) (k5:=k5)
  FB (by decide) FB (mN:=mN) (T.hasType FB.hasBase) (I.ok.hd rfl) (by rw [hs1];rfl) hni (kQ I hg O.bound ⟨rfl,?_⟩ hd)
 rw [hs1]
 refine Calls.evalArgs_plain ?_
 have PAok:=dw (X:=cxm P w K mg base N qual scope f cd A outer s H E) (e:=.Constant (.str words) j p1) (es:=[]) sR eG hs1
 have sp:=PAok cpos pins s1 σ H1 (fun vs H'=>vs.length=1/\H'=H1) I ⟨rfl,rfl⟩
 rw [hs1] at sp
 refine thn sp fun us s2 ⟨vs,H2,I2,rv,hl,e2⟩=>?_
 subst e2
 refine ⟨rfl,?_,I2.bk _ _ hC,hN.keeps I2.bk,T.keeps I2.bk,fun h' e hm=>?_⟩
 ·show us.length <= sizeLine
  rw [<- rv.length,hl];decide
 ·have hu:Un (frs (cxm P w K mg base N qual scope f cd A outer s H E).stack) [] H2 H2 s2.heap h':=Un.kept hm.keeps
  have FF:h'.FunFrames base (cxm P w K mg base N qual scope f cd A outer s H E).stack:=ko hu (fun _ m=>m) (fun b m=>I2.stkFree b m) I2.stack
  obtain ⟨t,ht,_,_⟩:=hm.there
  have hne:H2 e=none:=by
   cases qq:H2 e with
   | none=>rfl
   | some o=>obtain ⟨v,ev⟩:=tP (I2.hok e o qq);rw [hm.new] at ev;cases ev
  show wpAny (model P w) (A.deeper (envOfC qual scope s.heap.objs.size f cd)) (leaving (envOfC qual scope s.heap.objs.size f cd) (.ref e)) _ _ { s2 with heap:=h' }
  refine wpAny_leaving_first (base:=PySem.W.hideAll h' (e::([] ++ frs (cxm P w K mg base N qual scope f cd A outer s H E).stack))) (outer:=outer) (L:=s.heap.objs.size) I2.ok.frames ?_ rfl ht (fun b o e=>PySem.W.of_hideAll _ e) (PySem.W.hideAll_none _ (by simp)) rfl rfl fun h'' L=>?_
  ·exact PySem.W.funFrames_hide FF fun env he b hb=>List.mem_cons_of_mem _ (List.mem_append_right _ (List.mem_filterMap.mpr ⟨env,he,hb⟩))
  ·exact qZ (Ts:=[]) (s':={ s2 with heap:=h' }) I2 hu rfl I2.bare (I2.hok.kept hm.keeps) hne hm.new (fun T' m=>by simp at m) FF L (hE _ _ p S.same)
theorem bx {x:Str} {st:Stmt} {ps:List Str} {k:Nat} {g:ae->FOut} (U:Df K mg x st ps) (S:FnScope N ps (aA st))
    (hbody:∀ (f:Addr) (cdv:Value) (A:Around) (outer:List Env) (s:Shared) (H:Hp) (E:XK) (Ex:Value->Prop),(∀ C H',Ex C->Same H H'->E C none H')->Room k (A.deeper (envOfC x (aA st) s.heap.objs.size f cdv)) →
     FSs (cxm P w K mg base N x (aA st) f cdv A outer s H E) H Ex (cE st) g):Cal P w K mg base x ps.length (aN N.length g) (k + 1):=by
 obtain ⟨f,fd,F,hm,hb⟩:=U.ex
 exact ⟨f,fd,ps,qY F S fun cdv A outer s H E ds hr hl hx=>⟨g,hbody f cdv A outer s H E _ (fun C H' e sm=>hx C e H' sm) hr,rfl⟩,hm,F.kp,hb⟩
end
noncomputable def jK (f:Str) (v:D):List (Str × D)->List (Str × D)
 | []=>[(f,v)]
 | (g,u)::r=>if g=f then (g,v)::r else (g,u)::jK f v r
theorem RepF.put {H:Hp} {f:Str} {v:V} {d:D} (h:Rep H v d):∀ {fs:List (Str × V)} {ds:List (Str × D)},RepF H fs ds->RepF H (dP f v fs) (jK f d ds)
 | _,_,.nil=>.cons h .nil
 | _,_,.cons (k:=g) q r=>by
  unfold dP jK
  split
  ·exact .cons h r
  ·exact .cons q (RepF.put h r)
theorem RepF.look {H:Hp} {f:Str} {d:D}:∀ {fs:List (Str × V)} {ds:List (Str × D)},RepF H fs ds->ds.lookup f=some d->∃ v,fs.lookup f=some v/\Rep H v d
 | _,_,.nil,e=>by simp at e
 | _,_,.cons (k:=g) q r,e=>by
  rw [List.lookup_cons] at e ⊢
  cases hb:f == g with
  | true=>rw [hb] at e;cases e;exact ⟨_,rfl,q⟩
  | false=>rw [hb] at e;exact RepF.look r e
theorem RepF.length {H:Hp}:∀ {fs:List (Str × V)} {ds:List (Str × D)},RepF H fs ds->fs.length=ds.length
 | _,_,.nil=>rfl
 | _,_,.cons _ r=>by simp [RepF.length r]
section
variable {Hs H0 H:Hp} {vs:List (Option V)} {ds:List (Option D)} {v:V} {d:D}
theorem SR.field {C:Addr} {t:Tg} {fs:List (Str × D)} {f:Str} {x:D} (S:SR Hs H0 H (some v::vs) (some (.ins t C fs)::ds)) (hx:fs.lookup f=some x) :
    ∃ a dx fvs u,v=.ref a/\H a=some (.ins C dx fvs)/\fvs.lookup f=some u/\SR Hs H0 H (some u::vs) (some x.asF::ds):=by
 obtain ⟨Hf,fp,O,F⟩:=S
 cases O with
 | cons h r =>
  cases h with
  | fz h _ =>
   cases h with
   | ins h q =>
    obtain ⟨u,hu,ru⟩:=q.look hx
    exact ⟨_,_,_,u,rfl,F.fh _ _ h,hu,Hf,_,.cons (.fz ru.asF x.asF_tag) r,F.subl (by simp)⟩
 | brw z h r =>
  cases h with
  | fz h z'=>rw [z'] at z;cases z
  | ins _ h q =>
   obtain ⟨u,hu,ru⟩:=q.look hx
   exact ⟨_,_,_,u,rfl,h,hu,Hf,_,Own.cons (fp:=[]) (.fz ru.asF x.asF_tag) r,F⟩
theorem SR.setField {C p:Addr} {fs:List (Str × D)} {f:Str} {i:Nat} (S:SR Hs H0 H (some v::vs) (some d::ds)) (t:d.tag=.f) (n:noB ds) (e:ds[i]?=some (some (.slf p C fs))) :
    ∃ dx fvs,vs[i]?=some (some (.ref p))/\H p=some (.ins C dx fvs)/\fvs.length=fs.length/\SR Hs H0 (upd H p (.ins C dx (dP f v fvs))) vs (ds.set i (some (.slf p C (jK f d fs)))):=by
 obtain ⟨Hf,fp,O,F⟩:=S
 cases O with
 | brw z h r=>rw [t] at z;cases z
 | cons h r =>
  rename_i f0 f1
  cases h with
  | lst _ _=>cases t
  | dic _ _=>cases t
  | slf _ _ _=>cases t
  | fz hv _ =>
   have F:Fine Hs H0 Hf H f1:=F
   obtain ⟨q,fpx,fpr,e',rq,pm,w⟩:=r.write n F.nd e rfl
   cases rq with
   | slf hq hdx R =>
    rename_i dx fvs
    have F':=F.perm pm.symm
    have nd':=F'.nd
    have hp:p ∈ f1:=pm.symm.subset (by simp)
    have hpn:p ∉ dx::fpr:=by
     have:(p::(dx::fpr)).Nodup:=by simpa using nd'
     exact (List.nodup_cons.mp this).1
    have kp:∀ a o,a ∈ dx::fpr->H a=some o->upd H p (.ins C dx (dP f v fvs)) a=some o:=fun a o m z=>fU (fun y=>by subst y;exact hpn m) z
    obtain ⟨fp',O',p'⟩:=w (upd H p (.ins C dx (dP f v fvs))) (.slf p C (jK f d fs)) [p,dx] (fun a o m z=>kp a o (List.mem_cons_of_mem _ m) z) (.slf bC (kp dx _ List.mem_cons_self hdx) (R.put hv))
    refine ⟨dx,fvs,e',hq,R.length,Hf,fp',O',F.wrote hp ?_ ?_⟩
    ·exact (p'.nodup_iff).mpr (by simpa using nd')
    ·intro a m
     exact F'.own a (by simpa using p'.subset m)
end
section
variable {X:Cx} {Ex:Value->Prop} {H0:Hp} {e o value:Expr} {f fa fv:ae->Res D} {pos pos':Pos} {fld:Str} {C:Addr}
noncomputable def dk (C:Addr) (fld:Str):D->Res D
 | .ins _ C' fs=>if C'=C then bE ((fs.lookup fld).map D.asF) else .bad
 | _=>.bad
theorem eL (he:FE X H0 Ex e fa) (c:Cls X.K C) (na:NoAttr X.K C fld) (hb:attributeBase e fld X.env (eval e X.env)=eval e X.env:=by rfl):FE X H0 Ex (.Attribute e fld pos) (f1 (dk C fld) fa):=by
 refine ⟨PE.pre (yv he.go hb) ?_⟩
 rintro σ H Q ⟨Hs,ρ,ts,S,p⟩
 refine ⟨Hs,ρ,ts,S,(Post.bind p).imp fun d _ p1 v H1 S1=>?_⟩
 cases d with
 | ins t C' fs =>
  by_cases hC:C'=C
  ·subst hC
   have p1:Post Ex (if C'=C' then bE ((fs.lookup fld).map D.asF) else .bad) fun d=>∀ v H',SX Hs H0 H' ((v,d)::ts) σ ρ->Q v H':=p1
   rw [if_pos rfl] at p1
   cases el:fs.lookup fld with
   | none=>rw [el] at p1;exact p1.elim
   | some x =>
    rw [el] at p1
    have S1:SR Hs H0 H1 (some v::(tvs ts ++ σ)) (some (.ins t C' fs)::(tds ts ++ ρ)):=S1
    obtain ⟨a,dx,fvs,u,rfl,hH,hu,S2⟩:=S1.field el
    exact ⟨a,C',dx,fvs,u,rfl,hH,c,na,hu,p1 u H1 S2⟩
  ·have p1:Post Ex (if C'=C then bE ((fs.lookup fld).map D.asF) else .bad) fun d=>∀ v H',SX Hs H0 H' ((v,d)::ts) σ ρ->Q v H':=p1
   rw [if_neg hC] at p1
   exact p1.elim
 | _=>exact p1.elim
noncomputable def fJ (i:Nat) (C:Addr) (fld:Str) (fv:ae->Res D):ae->FOut:=fun ρ=>match ρ[i]? with
 | some (some (.slf p C' fs))=>aft (fv ρ) fun d=>if C' ≠ C \/ d.tag=.b \/ 1000 <= fs.length then .bad else .nx (ρ.set i (some (.slf p C' (jK fld d.fz fs))))
 | _=>.bad
theorem ji {i:Nat} {x:Str} {p1:Pos} (ho:PV X (.Name x p1) i) (hv:FE X H0 Ex value fv) (c:Cls X.K C) (na:NoAttr X.K C fld) (hs:swapsWith value (some (.Attribute (.Name x p1) fld pos')) pos.line X.env=pure false:=by rfl) :
    FS X H0 Ex (.Assign [.Attribute (.Name x p1) fld pos'] value pos) (fJ i C fld fv):=by
 refine ⟨PS.pre (yw ho.go hv.go hs) ?_⟩
 rintro En σ H ⟨Hs,ρ,⟨S,n⟩,p⟩
 unfold fJ at p
 split at p
 ·rename_i q C' fs hx
  refine ⟨Hs,ρ,[],S,(PostS.aft p).imp fun d _ p1 v H1 S1=>?_⟩
  split at p1
  ·exact p1.elim
  ·rename_i hc
   have hC:C'=C:=Decidable.byContradiction fun z=>hc (.inl z)
   subst hC
   have hb:d.tag ≠ .b:=fun z=>hc (.inr (.inl z))
   have S1:SR Hs H0 H1 (some v::σ) (some d::ρ):=S1
   obtain ⟨dx,fvs,hσ,hH,hl,S2⟩:=(S1.frz hb).setField (f:=fld) d.fz_tag n hx
   refine ⟨.ref q,hσ,q,C',dx,fvs,rfl,hH,c,na,?_,p1 σ _ ⟨S2,n.set fun d' z=>by cases z;exact fun y=>nomatch y⟩⟩
   rw [hl]
   exact Nat.lt_of_not_le fun z=>hc (.inr (.inr z))
 ·exact p.elim
noncomputable def im (H:Hp) (x dx:Addr):Hp:=fun a=>if a=x \/ a=dx then none else H a
theorem rX {H:Hp} {x dx:Addr}:Same (im H x dx) H:=fun a o e=>by
 unfold im at e
 split at e
 ·cases e
 ·exact e
noncomputable def spI (C:Addr) (n:Nat) (F:Addr->List D->Res (List (Str × D))):Sp:=fun vs H Q E=>∃ Hs us ds x dx,vs=.ref x::us/\ds.length=n/\x ≠ dx/\H x=some (.ins C dx [])/\H dx=some (.own x)/\Hs x=none/\Hs dx=none/\Same Hs H/\Reps Hs us ds/\(∀ d ∈ ds,d.tag=.f) ∧
 match F x ds with
 | .ok fs=>∀ H',SR Hs (im H x dx) H' [some (.ref x)] [some (.slf x C fs)]->Q .non H'
 | .exc Cx=>∀ H',Same (im H x dx) H'->E Cx none H'
 | .bad=>False
noncomputable def dM (C:Addr) (N:Nat) (g:ae->FOut) (x:Addr) (ds:List D):Res (List (Str × D)):=match g (some (D.slf x C [])::(ds.map some ++ List.replicate (N - (ds.length + 1)) none)) with
 | .nx ρ=>match ρ[0]? with
  | some (some (D.slf y C' fs))=>if y=x/\C'=C then .ok fs else .bad
  | _=>.bad
 | .exc Cx=>.exc Cx
 | _=>.bad
theorem tQ {P:Program} {w:World} {K:PySem.W.Frag} {mg:Str->Option Value} {base:Heap} {x qual:Str} {st:Stmt} {f:Addr} {fd:FuncData} {N ps:List Str} {k n:Nat} {g:ae->FOut} (U:Fun K x qual st f fd) (S:FnScope N ps (aA st)) (hn:ps.length=n + 1)
    (hbody:∀ (cdv:Value) (A:Around) (outer:List Env) (s:Shared) (H H0:Hp) (E:XK) (Ex:Value->Prop),(∀ C H',Ex C->Same H0 H'->E C none H')->Room k (A.deeper (envOfC qual (aA st) s.heap.objs.size f cdv)) →
     FSs (cxm P w K mg base N qual (aA st) f cdv A outer s H E) H0 Ex (cE st) g) :
    FnOk P w K mg base (CXm P w) (k + 1) f fd ps (spI C n (dM C N.length g)):=by
 refine Fun.okX U S (fun vs H Q E h=>?_) (fun cdv A outer s H vs Q E hr h=>?_)
 ·obtain ⟨Hs,us,ds,a,da,rfl,hl,_,_,_,_,_,_,R,_⟩:=h
  rw [List.length_cons,R.length,hl,hn]
 ·obtain ⟨Hs,us,ds,a,da,rfl,hl,hne,ha,hda,sa,sda,sH,R,ht,p⟩:=h
  have hg:=hbody cdv A outer s H (im H a da) E (fun C'=>dM C N.length g a ds=.exc C') (fun C' H' e sm=>by rw [e] at p;exact p H' sm) hr
  refine ⟨_,hg.go,Hs,some (.slf a C [])::(ds.map some ++ List.replicate (N.length - (ds.length + 1)) none),⟨⟨Hs,[a,da] ++ [],?_,?_,?_,sH,rX,Same.refl _,fun b o e=>.inl ⟨o,e⟩⟩,?_⟩,?_⟩
  ·have:=ik (Hs:=Hs) (H:=H) (N.length - (ds.length + 1)) R ht
   unfold L2.gR
   rw [List.length_cons,R.length]
   exact .cons (.slf ha hda .nil) this
  ·simp [hne]
  ·intro b m
   simp at m
   rcases m with rfl | rfl
   ·exact ⟨sa,by unfold im;rw [if_pos (.inl rfl)]⟩
   ·exact ⟨sda,by unfold im;rw [if_pos (.inr rfl)]⟩
  ·intro d m
   rcases List.mem_cons.mp m with z | m
   ·cases z;exact fun y=>nomatch y
   rcases List.mem_append.mp m with m | m
   ·obtain ⟨d',m',e⟩:=List.mem_map.mp m
    cases e
    rw [ht d m'];decide
   ·rw [List.mem_replicate] at m;cases m.2
  ·cases eg:g (some (D.slf a C [])::(ds.map some ++ List.replicate (N.length - (ds.length + 1)) none)) with
   | nx ρ' =>
    have e1:dM C N.length g a ds=(match ρ'[0]? with
     | some (some (D.slf y C' fs))=>if y=a/\C'=C then .ok fs else .bad
     | _=>.bad):=by unfold dM;rw [eg]
    rw [e1] at p
    split at p
    ·rename_i fs hq
     split at hq
     ·rename_i y C' fs' hy
      split at hq
      ·rename_i hc
       obtain ⟨rfl,rfl⟩:=hc
       cases hq
       intro σ' H' S'
       obtain ⟨v,hv,S2⟩:=S'.1.move hy (fun z=>nomatch z)
       have S3:=SR.only (vs':=[]) (ds':=[]) S2
       have hh:=S3.head
       cases hh
       exact p H' S3
      ·cases hq
     ·cases hq
    ·rename_i Cx hq
     split at hq
     ·split at hq <;> cases hq
     ·cases hq
    ·exact p.elim
   | exc C'=>show dM C N.length g a ds=.exc C';unfold dM;rw [eg]
   | rt d => have e1 : dM C N.length g a ds = .bad := by unfold dM; rw [eg]
             rw [e1] at p;exact p.elim
   | bk ρ' => have e1 : dM C N.length g a ds = .bad := by unfold dM; rw [eg]
              rw [e1] at p;exact p.elim
   | ct ρ' => have e1 : dM C N.length g a ds = .bad := by unfold dM; rw [eg]
              rw [e1] at p;exact p.elim
   | bad => have e1 : dM C N.length g a ds = .bad := by unfold dM; rw [eg]
            rw [e1] at p;exact p.elim
open Classical in
noncomputable def hG (F:Addr->List D->Res (List (Str × D))) (ds:List D):Res (List (Str × D)):=if h:∃ r,∀ x,F x ds=r then choose h else .bad
theorem tR {F:Addr->List D->Res (List (Str × D))} {ds:List D} {r:Res (List (Str × D))} (h:∀ x,F x ds=r):hG F ds=r:=by
 unfold hG
 rw [dif_pos ⟨r,h⟩]
 have:=Classical.choose_spec (⟨r,h⟩:∃ r,∀ x,F x ds=r)
 rw [<- this 0,h 0]
theorem tS {F:Addr->List D->Res (List (Str × D))} {ds:List D} (h:hG F ds ≠ .bad) (x:Addr):F x ds=hG F ds:=by
 unfold hG at h ⊢
 split
 ·rename_i q
  exact Classical.choose_spec q x
 ·rename_i q
  rw [dif_neg q] at h
  exact absurd rfl h
structure Mak (P:Program) (w:World) (K:PySem.W.Frag) (mg:Str->Option Value) (base:Heap) (x:Str) (C:Addr) (n:Nat) (F:Addr->List D->Res (List (Str × D))) (k:Nat):Prop where
 ex:∃ f fd ps,FnOk P w K mg base (CXm P w) k f fd ps (spI C n F)/\mg x=some (.ref C)/\Mk K C f/\Binds K fd ps []
noncomputable def rY (C:Addr) (n:Nat) (F:Addr->List D->Res (List (Str × D))) (fa:ae->Res (List D)):ae->Res D:=fun ρ=>fa ρ >>= fun ds=>if ds.length=n/\nb ds=true then hG F (D.fzs ds) >>= fun fs=>.ok (.ins .f C fs) else .bad
theorem xk {x:Str} {n k:Nat} {F:Addr->List D->Res (List (Str × D))} {p pos:Pos} {e:Expr} {es:List Expr} {fa:ae->Res (List D)} (c:Mak X.prog X.w X.K X.mg X.base x C n F k) (hx:Pa X H0 Ex) (hr:Room (k + 1) X.A) (hg:Gl X x) (ha:FA X H0 Ex (e::es) fa)
    (hdb:(x == ("__debug__" : Str))=false:=by decide) (he:starEach (e::es) X.env=(false,eval e X.env)::starEach es X.env:=by rfl) (hpl:(backTo pos (starEach es X.env)).any (·.1)=false:=by rfl) :
    FE X H0 Ex (.Call (.Name x p) (e::es) [] pos) (rY C n F fa):=by
 obtain ⟨f,fd,ps,G,hm,hk,hb⟩:=c.ex
 refine ⟨PE.pre (wV (dvs:=[]) (E:=Exk H0 Ex) hk G hr hg hm hb .nil hx.go ha.go hdb he hpl) ?_⟩
 rintro σ H Q ⟨Hs,ρ,ts,S,p⟩
 refine ⟨Hs,ρ,ts,S,(Post.bind p).imp fun ds _ p1 us H1 hl S1=>?_⟩
 split at p1
 ·rename_i hc
  obtain ⟨hn,hnb⟩:=hc
  intro a da ha hda hne
  rw [List.append_nil]
  have S2:=SX.held hl S1
  obtain ⟨Hf,fp,O,G2,R⟩:=S2.frozen hl (mn hnb)
  have hfa:Hf a=none:=(G2.fresh ha).1
  have hfda:Hf da=none:=(G2.fresh hda).1
  have sUp:Same H1 (upd (upd H1 da (.own a)) a (.ins C da [])):=fun b o e=>by
   rw [aZ (bB e ha),aZ (bB e hda)];exact e
  have hless:im (upd (upd H1 da (.own a)) a (.ins C da [])) a da=H1:=by
   funext b
   unfold im
   by_cases h1:b=a \/ b=da
   ·rw [if_pos h1]
    rcases h1 with rfl | rfl
    ·exact ha.symm
    ·exact hda.symm
   ·rw [if_neg h1,aZ (fun z=>h1 (.inl z)),aZ (fun z=>h1 (.inr z))]
  have hnbad:hG F (D.fzs ds) ≠ .bad:=fun z=>by rw [z] at p1;exact p1.elim
  refine ⟨Hf,us,D.fzs ds,a,da,rfl,by rw [k7];exact hn,Ne.symm hne,bC,by rw [aZ hne];exact bC,hfa,hfda,G2.fh.trans sUp,R,jf ds,?_⟩
  rw [tS hnbad a,hless]
  cases ef:hG F (D.fzs ds) with
  | bad=>exact absurd ef hnbad
  | exc Cx=>rw [ef] at p1;exact fun H' s=>⟨p1,S2.same.trans s⟩
  | ok fs =>
   rw [ef] at p1
   intro H' S3
   have S4:=S3.frz (fun z=>nomatch z)
   exact ⟨rfl,p1 _ H' (SR.told O G2 S4 (fun z=>nomatch z))⟩
 ·exact p1.elim
end
section
variable {X:Cx} {Ex:Value->Prop} {H0:Hp} {a b c e tg:Expr} {f fa fb fc:ae->Res D} {pos:Pos}
noncomputable def bX (p p':Int->Int->Bool) (fa fb fc:ae->Res D):ae->Res D:=fun ρ=>fa ρ >>= fun x=>fb ρ >>= fun y=>match x,y with
 | .int i,.int j=>if p i j=true then fc ρ >>= fun z=>match z with
  | .int k=>.ok (.bl (p' j k))
  | _=>.bad
  else .ok (.bl false)
 | _,_=>.bad
theorem pG {p p':Int->Int->Bool} {σ:St} {H:Hp} {Q:VK} (h:TEF H0 Ex (bX p p' fa fb fc) σ H Q) :
    pd (rI0 fun i j=>.bl (p i j)) (rI0 fun i j=>.bl (p' i j)) (TEF H0 Ex fa) (TEF H0 Ex fb) (TEF H0 Ex fc) σ H Q:=by
 obtain ⟨Hs,ρ,ts,S,p0⟩:=h
 refine ⟨Hs,ρ,ts,S,(Post.bind p0).imp fun d1 _ p1 v1 H1 S1=>⟨Hs,ρ,(v1,d1)::ts,S1,(Post.bind p1).imp fun d2 _ p2 v2 H2 S2=>?_⟩⟩
 have S2:SR Hs H0 H2 (some v2::some v1::(tvs ts ++ σ)) (some d2::some d1::(tds ts ++ ρ)):=S2
 cases d1 with
 | int i =>
  cases d2 with
  | int j =>
   cases SR.isInt S2
   cases SR.isInt S2.drop
   refine ⟨i,j,rfl,rfl,p i j,rfl,?_⟩
   have p2:Post Ex (if p i j=true then fc ρ >>= fun z=>match z with
    | .int k=>.ok (.bl (p' j k))
    | _=>.bad
    else .ok (.bl false)) fun d=>∀ v H',SX Hs H0 H' ((v,d)::ts) σ ρ->Q v H':=p2
   by_cases hc:p i j=true
   ·rw [if_pos hc] at p2 ⊢
    refine ⟨Hs,ρ,ts,S2.drop.drop,(Post.bind p2).imp fun d3 _ p3 v3 H3 S3=>?_⟩
    cases d3 with
    | int k =>
     have S3:SR Hs H0 H3 (some v3::(tvs ts ++ σ)) (some (.int k)::(tds ts ++ ρ)):=S3
     cases SR.isInt S3
     exact ⟨j,k,rfl,rfl,p3 _ H3 S3.drop.bl⟩
    | _=>exact p3.elim
   ·rw [if_neg hc] at p2 ⊢
    exact p2 _ H2 S2.drop.drop.bl
  | _=>exact p2.elim
 | _=>exact p2.elim
theorem lW {op op':CmpOp} {p p':Int->Int->Bool} (ho:OpR X (compareOp op) (rI0 fun i j=>.bl (p i j))) (ho':OpR X (compareOp op') (rI0 fun i j=>.bl (p' i j))) (ha:FE X H0 Ex a fa) (hb:FE X H0 Ex b fb) (hc:FE X H0 Ex c fc)
    (hm:lastMarks [op,op'] [b,c]=false:=by with_unfolding_all rfl):FE X H0 Ex (.Compare a [op,op'] [b,c] pos) (bX p p' fa fb fc):=
 ⟨PE.pre (va ho ho' ha.go hb.go hc.go hm) fun _ _ _ h=>pG h⟩
theorem iJ {op op':CmpOp} {p p':Int->Int->Bool} (ho:OpR X (compareOp op) (rI0 fun i j=>.bl (p i j))) (ho':OpR X (compareOp op') (rI0 fun i j=>.bl (p' i j))) (ha:FE X H0 Ex a fa) (hb:FE X H0 Ex b fb) (hc:FE X H0 Ex c fc)
    (hm:lastMarks [op,op'] [b,c]=false:=by with_unfolding_all rfl):FT X H0 Ex (.Compare a [op,op'] [b,c] pos) (ftB (bX p p' fa fb fc)):=by
 refine ⟨PT.pre (vb ho ho' ha.go hb.go hc.go hm) ?_⟩
 rintro σ H Q ⟨Hs,ρ,ts,S,p⟩
 refine pG ⟨Hs,ρ,ts,S,(Post.bind p).imp fun d _ p1 v H1 S1=>?_⟩
 obtain ⟨b,rfl,k⟩:=pA p1
 exact ⟨b,SR.isBl S1,k H1 S1.drop⟩
noncomputable def tyN:D->Option String
 | .non=>some "NoneType"
 | .bl _=>some "bool"
 | .int _=>some "int"
 | .str _=>some "str"
 | .lst _ _=>some "list"
 | .scr _=>some "list"
 | .tup _=>some "tuple"
 | .dic _ _=>some "dict"
 | _=>none
noncomputable def gS (t T:String):Bool:=t == T || (t == "bool" && T == "int")
noncomputable def lX (T:String):D->Res D:=fun d=>match tyN d with
 | some t=>.ok (.bl (gS t T))
 | none=>.bad
noncomputable def KT (K:PySem.W.Frag) (T:String):Prop:=∀ t ∈ ["NoneType", "bool", "int", "str", "list", "tuple", "dict"],PySem.W.kitOne K (.type t) (.type T)=some (gS t T)
theorem yR {K:PySem.W.Frag} {H:Hp} {v:V} {d:D} {t:String} (r:Rep H v d) (h:tyN d=some t):TyOf K H v (.type t)/\t ∈ ["NoneType", "bool", "int", "str", "list", "tuple", "dict"]:=by
 cases r with
 | non=>cases h;exact ⟨.non,by decide⟩
 | bl=>cases h;exact ⟨.bl _,by decide⟩
 | int=>cases h;exact ⟨.int _,by decide⟩
 | str=>cases h;exact ⟨.str _,by decide⟩
 | lst q _=>cases h;exact ⟨.lst q,by decide⟩
 | tup q _=>cases h;exact ⟨.tup q,by decide⟩
 | dic q _=>cases h;exact ⟨.dT q,by decide⟩
 | scr q=>cases h;exact ⟨.frz q,by decide⟩
 | ins _ _=>cases h
 | slf _ _=>cases h
theorem vD {T:String} (hK:KT X.K T):CallR X (.builtin "isinstance") fun us H Q=>∃ x t,us=[x,.ty T]/\TyOf X.K H x (.type t)/\t ∈ ["NoneType", "bool", "int", "str", "list", "tuple", "dict"]/\Q (.bl (gS t T)) H:=by
 intro pins s σ H xs us Q I r h
 obtain ⟨x,t,rfl,ty,ht,q⟩:=h
 cases r with
 | cons r1 r2 =>
  cases r2 with
  | cons r3 r4 =>
   cases r4
   cases r3
   exact tu I r1 ty (hK t ht) fun tk=>⟨.bl _,H,I.tok tk,rfl,q⟩
theorem tT {T:String} {x:Str} {p p2:Pos} (hK:KT X.K T) (he:FE X H0 Ex e f) (hg:Gl X "isinstance") (hm:X.mg "isinstance" = none) (hgT:Gl X x) (hmT:X.mg x=none) (hv:bootBuiltins x=some (.type T)) (hn:x ≠ "__name__" := by decide) (hd:(x == ("__debug__" : Str))=false:=by decide)
    (h1:starEach [e,.Name x p2] X.env=(false,eval e X.env)::starEach [.Name x p2] X.env:=by rfl) (h2:starEach [.Name x p2] X.env=(false,eval (.Name x p2) X.env)::starEach [] X.env:=by rfl) (h3:(backTo pos (starEach [.Name x p2] X.env)).any (·.1)=false:=by rfl) :
    FE X H0 Ex (.Call (.Name "isinstance" p) [e,.Name x p2] [] pos) (f1 (lX T) f):=by
 have hb:bootBuiltins "isinstance" = some (.builtin "isinstance"):=by decide +kernel
 refine ⟨PE.pre (lR (vD hK) hg hm hb (dw he.go (dw (wJ (v:=.ty T) hgT hmT hv rfl hn hd) eG h2) h1) (by decide) (by decide) h1 h3) ?_⟩
 rintro σ H Q ⟨Hs,ρ,ts,S,p⟩
 refine ⟨Hs,ρ,ts,S,(Post.bind p).imp fun d _ p1 v H1 S1=>?_⟩
 unfold lX at p1
 split at p1
 ·rename_i t ht
  have S1:SR Hs H0 H1 (some v::(tvs ts ++ σ)) (some d::(tds ts ++ ρ)):=S1
  obtain ⟨ty,hm⟩:=yR (K:=X.K) S1.head ht
  exact ⟨v,t,rfl,ty,hm,p1 _ H1 S1.drop.bl⟩
 ·exact p1.elim
noncomputable def isN:D->Bool
 | .non=>true
 | _=>false
noncomputable def dS (neg:Bool):D->D->Res D:=fun x y=>match y with
 | .non=>.ok (.bl (neg != isN x))
 | _=>.bad
theorem fX (n:Bool):∀ x y,noX (dS n x y)=true:=by intro x y;unfold dS;split <;> rfl
theorem tU {H:Hp} {v:V} {d:D} (r:Rep H v d):decide (v=.non)=isN d:=by cases r <;> rfl
theorem SR.isNon {Hs H0 H:Hp} {vs:List (Option V)} {ds:List (Option D)} {v:V} (S:SR Hs H0 H (some v::vs) (some .non::ds)):v=.non:=by cases S.head;rfl
theorem jj:FOp X (compareOp .Is) (dS false):=by
 refine ⟨OpR.pre yu ?_⟩
 rintro x y H Q ⟨Hs,H0,vs,ds,d1,d2,d,S,e,k⟩
 unfold dS at e
 split at e
 ·cases e
  refine ⟨SR.isNon S,?_⟩
  rw [tU S.drop.head]
  have:isN d1=(false != isN d1):=by cases isN d1 <;> rfl
  rw [this]
  exact k _ H S.drop.drop.bl
 ·cases e
theorem xm:FOp X (compareOp .IsNot) (dS true):=by
 refine ⟨OpR.pre wP ?_⟩
 rintro x y H Q ⟨Hs,H0,vs,ds,d1,d2,d,S,e,k⟩
 unfold dS at e
 split at e
 ·cases e
  refine ⟨SR.isNon S,?_⟩
  rw [tU S.drop.head]
  have:(!isN d1)=(true != isN d1):=by cases isN d1 <;> rfl
  rw [this]
  exact k _ H S.drop.drop.bl
 ·cases e
noncomputable def vE (i j:Nat) (fa:ae->Res (List D)):ae->FOut:=fun ρ=>aft (fa ρ) fun ds=>match ds with
 | [d,d']=>if d.tag=.b \/ d'.tag=.b \/ ρ.length <= i \/ ρ.length <= j then .bad else .nx ((ρ.set i (some d.fz)).set j (some d'.fz))
 | _=>.bad
theorem yS {i j:Nat} {x y:Str} {fa:ae->Res (List D)} {px py pt:Pos} {kt k2 pt2} (hc:X.calm=true) (hN:X.N.Nodup) (hi:X.N[i]?=some x) (hj:X.N[j]?=some y) (hij:i ≠ j)
    (hx:X.env.scope.names.lookup x=some .local) (hy:X.env.scope.names.lookup y=some .local) (ha:FA X H0 Ex [a,b] fa)
    (hw:swappedStores [.Tuple [.Name x px,.Name y py] kt pt] (.Tuple [a,b] k2 pt2) X.env=pure (some [x,y]))
    (hs:swapsWithSole [.Tuple [.Name x px,.Name y py] kt pt] (.Tuple [a,b] k2 pt2) pos.line X.env=pure false:=by rfl) :
    FS X H0 Ex (.Assign [.Tuple [.Name x px,.Name y py] kt pt] (.Tuple [a,b] k2 pt2) pos) (vE i j fa):=by
 refine ⟨PS.pre (yj hc hN hi hj hij hx hy ha.go hw hs) ?_⟩
 rintro En σ H ⟨Hs,ρ,⟨S,n⟩,p⟩
 refine ⟨Hs,ρ,[],S,(PostS.aft p).imp fun ds _ p1 us H1 hl S1=>?_⟩
 split at p1
 ·rename_i d d' _
  split at p1
  ·exact p1.elim
  ·rename_i hb
   obtain ⟨u,w,rfl⟩:=mw hl rfl
   have S2:SR Hs H0 H1 (some w::some u::σ) (some d'::some d::ρ):=SX.held hl S1
   have hd:d.tag ≠ .b:=fun z=>hb (.inl z)
   have hd':d'.tag ≠ .b:=fun z=>hb (.inr (.inl z))
   have hi':i < ρ.length:=Nat.lt_of_not_le fun z=>hb (.inr (.inr (.inl z)))
   have hj':j < ρ.length:=Nat.lt_of_not_le fun z=>hb (.inr (.inr (.inr z)))
   have S3:=SR.set (S2.frz hd') (by rw [d'.fz_tag];decide) (i:=j + 1) (by simpa using hj')
   have S3:SR Hs H0 H1 (some u::σ.set j (some w)) (some d::ρ.set j (some d'.fz)):=S3
   have S4:=SR.set (S3.frz hd) (by rw [d.fz_tag];decide) (i:=i) (by simpa using hi')
   refine ⟨u,w,rfl,p1 _ H1 ⟨?_,?_⟩⟩
   ·rw [List.set_comm _ _ hij,List.set_comm (some d.fz) (some d'.fz) hij];exact S4
   ·exact (n.set fun d0 z=>by cases z;rw [d.fz_tag];decide).set fun d0 z=>by cases z;rw [d'.fz_tag];decide
 ·exact p1.elim
end
section
variable {X:Cx} {pins:List (Addr × Obj)} {σ:St} {H1 H':Hp} {s1 s':Shared} {a T:Addr} {C:Value} {h:Heap}
end
noncomputable abbrev Cx.att (X:Cx) (E:Value->Shared->Prop) (pn:List (Addr × Obj)):Cx:={ X with xe:=E,pn:=pn }
section
variable {X:Cx} {pins pins':List (Addr × Obj)} {σ:St} {H:Hp} {s:Shared} {E:Value->Shared->Prop}
theorem Cx.Ok.att {pn} (ok:X.Ok):(Cx.att X E pn).Ok:=⟨ok.mod,ok.kind,ok.glob,ok.blt,ok.above,ok.inj,ok.has,ok.cab,ok.hd,ok.frames,ok.stk,ok.exf,ok.bs,ok.bsz,ok.noex,ok.exfs,ok.funs,ok.frf⟩
theorem Cx.Ok.unatt {pn} (ok:(Cx.att X E pn).Ok):X.Ok:=⟨ok.mod,ok.kind,ok.glob,ok.blt,ok.above,ok.inj,ok.has,ok.cab,ok.hd,ok.frames,ok.stk,ok.exf,ok.bs,ok.bsz,ok.noex,ok.exfs,ok.funs,ok.frf⟩
theorem Inv.att (I:Inv X pins σ H s):Inv (Cx.att X E (X.pn ++ pins)) [] σ H s:=⟨Cx.Ok.att I.ok,I.os,I.bare,I.base,I.loc,I.cell,I.free,I.freeC,fun p hp=>I.pin p (by simpa using hp),I.hok,I.len⟩
theorem Inv.unatt (I:Inv (Cx.att X E (X.pn ++ pins)) pins' σ H s):Inv X pins σ H s:=⟨Cx.Ok.unatt I.ok,I.os,I.bare,I.base,I.loc,I.cell,I.free,I.freeC,fun p hp=>I.pin p (List.mem_append_left _ hp),I.hok,I.len⟩
theorem SP.unatt {D:Ends} {f:Flow} (h:SP (Cx.att X E (X.pn ++ pins)) pins' D f s):SP X pins D f s:=by
 cases f with
 | next=>obtain ⟨σ,H,I,q⟩:=h;exact ⟨σ,H,Inv.unatt I,q⟩
 | brk=>obtain ⟨σ,H,I,q⟩:=h;exact ⟨σ,H,Inv.unatt I,q⟩
 | cont=>obtain ⟨σ,H,I,q⟩:=h;exact ⟨σ,H,Inv.unatt I,q⟩
 | ret u=>obtain ⟨v,σ,H,I,r,q⟩:=h;exact ⟨v,σ,H,Inv.unatt I,r,q⟩
end
noncomputable def gn (H:Hp) (fp:List Addr):Hp:=fun b=>if b ∈ fp then none else H b
theorem ol {H:Hp} {fp:List Addr} {b:Addr} (h:b ∉ fp):gn H fp b=H b:=by unfold gn;rw [if_neg h]
theorem rZ {H:Hp} {fp:List Addr}:Same (gn H fp) H:=fun b o e=>by
 unfold gn at e
 split at e
 ·cases e
 ·exact e
theorem Fine.notIn {Hs H0 Hf H:Hp} {fp:List Addr} (F:Fine Hs H0 Hf H fp):Same Hf (gn H fp)/\Same H0 (gn H fp):=by
 refine ⟨fun b o e=>?_,fun b o e=>?_⟩
 ·rw [ol fun m=>by rw [(F.own b m).1] at e;cases e];exact F.fh b o e
 ·rw [ol fun m=>by rw [(F.own b m).2] at e;cases e];exact F.zh b o e
theorem SR.back {Hs H0 Hf H H':Hp} {fp:List Addr} {vs:List (Option V)} {ds:List (Option D)} (F:Fine Hs H0 Hf H fp) (S:SR Hf (gn H fp) H' vs ds):SR Hs H0 H' vs ds:=by
 obtain ⟨Hg,fq,O,G⟩:=S
 have lo:∀ b,gn H fp b=none->H0 b=none:=fun b z=>by
  cases e:H0 b with
  | none=>rfl
  | some o=>have:=F.notIn.2 b o e;rw [z] at this;cases this
 refine ⟨Hg,fq,O,G.nd,fun b m=>⟨(G.own b m).1,lo b (G.own b m).2⟩,G.fh,F.notIn.2.trans G.zh,F.sf.trans G.sf,fun b o e=>?_⟩
 rcases G.new b o e with ⟨o',z⟩ | z
 ·exact F.new b o' z
 ·exact .inr (lo b z)
section
variable {X:Cx} {Ex:Value->Prop} {H0:Hp} {g:ae->FOut} {body:List Stmt} {i:Nat} {n cn dn:Str} {C Dc:Addr} {p1 p2 p3 p4 p5 p6 p7 pos:Pos}
end
noncomputable def asc (x:Str):Bool:=x.cps.all (· < 128)
noncomputable def lY (x:Str):List D:=x.cps.toList.map fun c=>.str ⟨#[c]⟩
noncomputable def Its (x:Str):It:=⟨fun i _=>i < x.cps.size,fun i H v H'=>H'=H/\∃ c,x.cps[i]?=some c/\v=.str ⟨#[c]⟩,fun i _=>x.cps.size <= i⟩
theorem yT {x:Str} {B:Hp}:gD (Its x) B (lY x):=by
 intro H s i
 refine ⟨fun d hd=>?_,fun hi=>(show x.cps.size <= i from Nat.le_of_eq (by simpa [lY] using hi.symm))⟩
 simp only [lY,List.getElem?_map] at hd
 cases e:x.cps.toList[i]? with
 | none=>rw [e] at hd;cases hd
 | some c =>
  rw [e] at hd
  cases hd
  have e':x.cps[i]?=some c:=by simpa using e
  refine ⟨(Array.getElem?_eq_some_iff.mp e').1,fun v H' ⟨e1,c',e2,e3⟩=>⟨rfl,.inl ⟨e1,?_⟩⟩⟩
  rw [e'] at e2
  cases e2
  rw [e3]
  exact .str
theorem vF {P:Program} {w:World} {K:PySem.W.Frag} {tg:Expr} {x:Str} {t:Tok} (it:Addr):Turn P w K tg (Its x) [it] it (fun i h=>h.IsStrIter it "str_ascii_iterator" x t i) where
 mem:=List.mem_singleton.mpr rfl
 obj:=fun i h st b hb=>by
  cases List.mem_singleton.mp hb
  obtain ⟨o,e,_,d⟩:=st
  exact ⟨o,e,fun v z=>by rw [d] at z;cases z⟩
 keep:=fun i h h' st k=>let ⟨o,e,r⟩:=st;⟨o,k it (List.mem_singleton.mpr rfl) o e,r⟩
 item:=by
  intro X e1 e2 e3 hc i pins s σ H E I hf st hg
  subst e1 e2 e3
  obtain ⟨g0,g1,_,g3,g4,g5⟩:=hf it (List.mem_singleton.mpr rfl)
  refine wpAny_pyNext_ascii_item st (c:=x.cps[i]'hg) (Array.getElem?_eq_getElem hg) fun h' st' sb=>?_
  have J:Inv X pins σ H { s with heap:=h',toks:=s.toks + 1 }:=I.turned (fun b o hb e=>(sb.2 b hb).trans e) g0 g1 g3 g4 g5
  obtain ⟨o,e,c,d⟩:=id st'
  exact ⟨_,rfl,o0 (s:={ s with heap:=h',toks:=s.toks + 1 }) e c d (by decide) ⟨.str _,H,J,⟨_,rfl⟩,⟨rfl,_,Array.getElem?_eq_getElem hg,rfl⟩,st',fun b hb=>(hf b hb).1⟩⟩
 done:=by
  intro X e1 e2 e3 hc i pins s σ H E I hf st hg
  subst e1 e2 e3
  obtain ⟨g0,g1,_,g3,g4,g5⟩:=hf it (List.mem_singleton.mpr rfl)
  have hg:x.cps.size <= i:=hg
  exact wpAny_pyNext_ascii_end (I.ok.hd hc) st (Array.getElem?_eq_none hg) fun h' eb=>⟨rfl,I.turned (t':=s.toks) (fun b o hb e=>eb b o hb e) g0 g1 g3 g4 g5⟩
 self:=fun _ _ _ _ _ st h=>wpAny_pyIter_striter_ascii st h
section
variable {X:Cx} {Ex:Value->Prop} {H0:Hp} {e tg:Expr} {f:ae->Res D} {tl:TE}
noncomputable def CL (K:PySem.W.Frag) (tl:TE):TI:=fun σ H R=>tl σ H fun v H1=>(∃ a,v=.ref a/\(∃ xs,SqL K H1 a xs)/\R (Itl K a) H1) \/ (∃ a,v=.ref a/\(∃ xs,SqT K H1 a xs)/\R (Itt K a) H1) \/ ∃ x,v=.str x/\asc x=true/\R (Its x) H1
theorem yU (hl:PE X e tl):PI X tg e (CL X.K tl):=by
 intro pins s σ H R I h
 refine thn (hl pins s σ H _ I h) fun v s1 ⟨x,H1,I1,r1,q1⟩=>?_
 have fresh:∀ b ∈ [s1.heap.objs.size],gA X pins H1 b:=fun b hb=>by
  cases List.mem_singleton.mp hb
  exact I1.fpOk (Nat.le_refl _) (I1.hok.fresh (Nat.le_refl _))
 rcases q1 with ⟨a,rfl,⟨xs,hq⟩,q⟩ | ⟨a,rfl,⟨xs,hq⟩,q⟩ | ⟨z,rfl,ha,q⟩
 ·cases r1
  obtain ⟨its,rv,p,_⟩:=I1.list hq
  exact wpAny_pyIter_list p.isList ⟨s1.heap.objs.size,[s1.heap.objs.size],_,_,H1,rfl,I1.kept (t':=s1.toks) (fun b o e=>Heap.get?_push_of_some _ e),sV a _,⟨_,Heap.get?_push_size _ rfl,rfl,rfl⟩,fresh,q⟩
 ·cases r1
  obtain ⟨its,rv,p,_⟩:=I1.tuple hq
  exact wpAny_pyIter_tuple (show s1.heap.IsTuple a its.toArray from p) ⟨s1.heap.objs.size,[s1.heap.objs.size],_,_,H1,rfl,I1.kept (t':=s1.toks) (fun b o e=>Heap.get?_push_of_some _ e),rJ a _,⟨_,Heap.get?_push_size _ rfl,rfl,rfl⟩,fresh,q⟩
 ·obtain ⟨t,rfl⟩:=r1
  exact wpAny_pyIter_ascii ha ⟨s1.heap.objs.size,[s1.heap.objs.size],_,_,H1,rfl,I1.kept (t':=s1.toks) (fun b o e=>Heap.get?_push_of_some _ e),vF _,⟨_,Heap.get?_push_size _ rfl,rfl,rfl⟩,fresh,q⟩
theorem yV {K:PySem.W.Frag} {B:Hp} {a:Addr} {us:List V} {ds:List D} (h:B a=some (.tup us)) (R:Reps B us ds) (t:∀ e ∈ ds,e.tag=.f):gD (Itt K a) B ds:=by
 intro H s i
 have hl:=R.length
 refine ⟨fun d hd=>?_,fun hi=>⟨us,SqT.of (s _ _ h),by omega⟩⟩
 obtain ⟨u,hu,ru⟩:=R.get hd
 refine ⟨⟨us,u,SqT.of (s _ _ h),hu⟩,fun x H' ⟨e,y⟩=>⟨t d (List.mem_of_getElem? hd),.inl ⟨e,?_⟩⟩⟩
 have:=y us (SqT.of (s _ _ h))
 rw [hu] at this
 cases this
 exact ru
noncomputable def aJ (f:ae->Res D):ae->Res (List D):=fun ρ=>f ρ >>= fun d=>match d with
 | .str x=>if asc x=true then .ok (lY x) else .bad
 | d=>if d.tag=.b then .bad else bE d.its
theorem bT (he:FE X H0 Ex e f):FI X H0 Ex tg e (aJ f):=by
 refine ⟨PI.pre (yU he.go) ?_⟩
 rintro σ H R ⟨Hs,ρ,ts,S,p⟩
 refine ⟨Hs,ρ,ts,S,(Post.bind p).imp fun d _ p1 v H1 S1=>?_⟩
 have seq:Post Ex (if d.tag=.b then .bad else bE d.its) (fun items=>∀ J H' Hf fp,gD J Hf items->Own Hf H' fp (tvs ts ++ σ) (tds ts ++ ρ)->Fine Hs H0 Hf H' fp->R J H')->(∃ a,v=.ref a/\(∃ xs,SqL X.K H1 a xs)/\R (Itl X.K a) H1) \/ (∃ a,v=.ref a/\(∃ xs,SqT X.K H1 a xs)/\R (Itt X.K a) H1) \/ ∃ x,v=.str x/\asc x=true/\R (Its x) H1:=by
  intro p1
  split at p1
  ·exact p1.elim
  ·rename_i tb
   cases e:d.its with
   | none=>rw [e] at p1;exact p1.elim
   | some ys =>
    rw [e] at p1
    obtain ⟨Hf,fp,O,F⟩:=S1
    obtain ⟨a,us,rfl,Hg,fq,O',F',_,ha,R⟩:=O.itemsC F e tb
    cases il:d.isL with
    | true =>
     rw [il] at ha
     exact .inl ⟨a,rfl,⟨us,SqL.of (F'.fh _ _ ha)⟩,p1 _ H1 Hg fq (yO ha R (D.its_tag e)) O' F'⟩
    | false =>
     rw [il] at ha
     exact .inr (.inl ⟨a,rfl,⟨us,SqT.of (F'.fh _ _ ha)⟩,p1 _ H1 Hg fq (yV ha R (D.its_tag e)) O' F'⟩)
 cases d with
 | str x =>
  have p1:Post Ex (if asc x=true then .ok (lY x) else .bad) (fun items=>∀ J H' Hf fp,gD J Hf items->Own Hf H' fp (tvs ts ++ σ) (tds ts ++ ρ)->Fine Hs H0 Hf H' fp->R J H'):=p1
  split at p1
  ·rename_i hx
   have S1:SR Hs H0 H1 (some v::(tvs ts ++ σ)) (some (.str x)::(tds ts ++ ρ)):=S1
   cases SR.isStr S1
   obtain ⟨Hf,fp,O,F⟩:=S1.drop
   exact .inr (.inr ⟨x,rfl,hx,p1 _ H1 Hf fp yT O F⟩)
  ·exact p1.elim
 | _=>exact seq p1
end
noncomputable def dU:List (Option Bool)->Option Bool
 | []=>some true
 | none::_=>none
 | some b::r=>match dU r with
  | some c=>some (b && c)
  | none=>none
noncomputable def a0:Nat->D->D->Option Bool
 | _,.int i,.int j=>some (decide (i=j))
 | _,.str i,.str j=>some (decide (i=j))
 | n + 1,.lst _ xs,.lst _ ys=>if xs.length=ys.length then dU ((xs.zip ys).map fun p=>a0 n p.1 p.2) else some false
 | n + 1,.tup xs,.tup ys=>if xs.length=ys.length then dU ((xs.zip ys).map fun p=>a0 n p.1 p.2) else none
 | _,_,_=>none
theorem jL:∀ {l:List (Option Bool)} {b:Bool},dU l=some b->∃ e:Nat->Bool,(∀ j,j < l.length->l[j]?=some (some (e j)))/\b=(List.range l.length).all e
 | [],b,h=>⟨fun _=>true,fun j hj=>by simp at hj,by simp [dU] at h;simp [<- h]⟩
 | none::r,b,h=>by simp [dU] at h
 | some a::r,b,h=>by
  unfold dU at h
  cases e:dU r with
  | none=>rw [e] at h;cases h
  | some c =>
   rw [e] at h
   have h:(a && c)=b:=Option.some.inj h
   obtain ⟨f,h1,h2⟩:=jL e
   refine ⟨fun j=>match j with | 0=>a | j + 1=>f j,fun j hj=>?_,?_⟩
   ·cases j with
    | zero=>rfl
    | succ j=>simpa using h1 j (by simpa using hj)
   ·rw [<- h,h2,List.length_cons,List.range_succ_eq_map,List.all_cons,List.all_map]
    rfl
theorem vG {H:Hp}:∀ (n:Nat) {v:V} {d d':D} {b:Bool},Rep H v d->Rep H v d'->a0 n d d'=some b->b=true:=by
 have seqs:∀ (n:Nat),(∀ {v:V} {d d':D} {b:Bool},Rep H v d->Rep H v d'->a0 n d d'=some b->b=true)->∀ {us:List V} {xs ys:List D} {b:Bool},Reps H us xs->Reps H us ys->dU ((xs.zip ys).map fun p=>a0 n p.1 p.2)=some b->b=true:=by
  intro n ih us
  induction us with
  | nil=>intro xs ys b r1 r2 h;cases r1;cases r2;simp [dU] at h;first | exact h | exact h.symm
  | cons u us ihu =>
   intro xs ys b r1 r2 h
   cases r1 with
   | cons a1 b1 =>
    cases r2 with
    | cons a2 b2 =>
     rename_i d1 ds1 d2 ds2
     rw [List.zip_cons_cons,List.map_cons] at h
     cases e:a0 n d1 d2 with
     | none=>rw [e] at h;cases h
     | some k =>
      rw [e] at h
      unfold dU at h
      cases e2:dU ((ds1.zip ds2).map fun p=>a0 n p.1 p.2) with
      | none=>rw [e2] at h;cases h
      | some c =>
       rw [e2] at h
       have h:(k && c)=b:=Option.some.inj h
       rw [<- h,ih a1 a2 e,ihu b1 b2 e2]
       rfl
 intro n
 induction n with
 | zero =>
  intro v d d' b r1 r2 h
  cases r1 <;> cases r2 <;> first | (simp [a0] at h;done) | (simp [a0] at h;first | exact h | exact h.symm)
 | succ n ih =>
  intro v d d' b r1 r2 h
  cases r1 with
  | int=>cases r2;simp [a0] at h;first | exact h | exact h.symm
  | str=>cases r2;simp [a0] at h;first | exact h | exact h.symm
  | lst h1 q1 =>
   cases r2 with
   | lst h2 q2 =>
    rw [h1] at h2;cases h2
    unfold a0 at h
    rw [if_pos (by rw [<- q1.length,<- q2.length])] at h
    exact seqs n ih q1 q2 h
   | tup h2 q2=>rw [h1] at h2;cases h2
   | _=>simp [a0] at h
  | tup h1 q1 =>
   cases r2 with
   | tup h2 q2 =>
    rw [h1] at h2;cases h2
    unfold a0 at h
    rw [if_pos (by rw [<- q1.length,<- q2.length])] at h
    exact seqs n ih q1 q2 h
   | lst h2 q2=>rw [h1] at h2;cases h2
   | _=>simp [a0] at h
  | _=>cases r2 <;> simp [a0] at h
section
variable {X:Cx} {pins:List (Addr × Obj)} {σ:St} {H:Hp} {s:Shared}
theorem o6 (I:Inv X pins σ H s):∀ (n:Nat) (A:Around) {v v':V} {u u':Value} {d d':D} {b:Bool},A.units + n < cLine->Rep H v d->Rep H v' d'->RelV v u->RelV v' u'->a0 n d d'=some b →
    SeqAt.EqAt A s u u' b/\∀ a a',v=.ref a->v'=.ref a'->SeqAt.RcAt A s u u' b:=by
 intro n
 have base:∀ {n:Nat} {A:Around} {v v':V} {u u':Value} {i j:Int} {b:Bool},Rep H v (.int i)->Rep H v' (.int j)->RelV v u->RelV v' u'->a0 n (.int i) (.int j)=some b->SeqAt.EqAt A s u u' b/\∀ a a',v=.ref a->v'=.ref a'->SeqAt.RcAt A s u u' b:=by
  intro n A v v' u u' i j b r1 r2 e1 e2 h
  cases r1;cases r2
  obtain ⟨t,rfl⟩:=e1
  obtain ⟨t',rfl⟩:=e2
  have hb:(i == j)=b:=by cases n <;> (simp [a0] at h;rw [<- h];rfl)
  refine ⟨hb ▸ (MeetsSeq.EqGives.int i j t t').at A s,fun a a' z=>nomatch z⟩
 have baseS:∀ {n:Nat} {A:Around} {v v':V} {u u':Value} {i j:Str} {b:Bool},Rep H v (.str i)->Rep H v' (.str j)->RelV v u->RelV v' u'->a0 n (.str i) (.str j)=some b->SeqAt.EqAt A s u u' b/\∀ a a',v=.ref a->v'=.ref a'->SeqAt.RcAt A s u u' b:=by
  intro n A v v' u u' i j b r1 r2 e1 e2 h
  cases r1;cases r2
  obtain ⟨t,rfl⟩:=e1
  obtain ⟨t',rfl⟩:=e2
  have hb:(i == j)=b:=by
   have h:decide (i=j)=b:=by cases n <;> (simp only [a0] at h;exact Option.some.inj h)
   rw [<- h,Bool.eq_iff_iff];simp
  refine ⟨hb ▸ (eqGives_str i j t t').at A s,fun a a' z=>nomatch z⟩
 induction n with
 | zero =>
  intro A v v' u u' d d' b hu r1 r2 e1 e2 h
  cases d with
  | int i=>cases d' with | int j=>exact base r1 r2 e1 e2 h | _=>simp [a0] at h
  | str i=>cases d' with | str j=>exact baseS r1 r2 e1 e2 h | _=>simp [a0] at h
  | _=>simp [a0] at h
 | succ n ih =>
  intro A v v' u u' d d' b hu r1 r2 e1 e2 h
  have items:∀ {us us':List V} {its its':List Value} {xs ys:List D} {b:Bool},Reps H us xs->Reps H us' ys->Vals us its->Vals us' its'->xs.length=ys.length->dU ((xs.zip ys).map fun p=>a0 n p.1 p.2)=some b →
      ∃ e:Nat->Bool,(∀ j (h1:j < its.toArray.size) (h2:j < its'.toArray.size),SeqAt.EqAt A.in1 s its.toArray[j] its'.toArray[j] (e j))/\b=(List.range its.toArray.size).all e:=by
   intro us us' its its' xs ys b q1 q2 w1 w2 hl h
   obtain ⟨e,he,hb⟩:=jL h
   have l1:((xs.zip ys).map fun p=>a0 n p.1 p.2).length=its.length:=by rw [List.length_map,List.length_zip,<- w1.length,q1.length];omega
   refine ⟨e,fun j h1 h2=>?_,by rw [hb,l1];rfl⟩
   have j1:j < its.length:=by simpa using h1
   have j2:j < its'.length:=by simpa using h2
   have:=he j (by rw [l1];exact j1)
   rw [List.getElem?_map] at this
   cases ez:(xs.zip ys)[j]? with
   | none=>rw [ez] at this;cases this
   | some p =>
    rw [ez] at this
    have hd:a0 n p.1 p.2=some (e j):=Option.some.inj this
    obtain ⟨hx,hy⟩:=List.getElem?_zip_eq_some.mp ez
    obtain ⟨v1,hv1,rp1⟩:=q1.get hx
    obtain ⟨v2,hv2,rp2⟩:=q2.get hy
    obtain ⟨u1,hu1,rl1⟩:=w1.get hv1
    obtain ⟨u2,hu2,rl2⟩:=w2.get hv2
    have g1:its.toArray[j]=u1:=by rw [List.getElem?_eq_getElem j1] at hu1;simpa using Option.some.inj hu1
    have g2:its'.toArray[j]=u2:=by rw [List.getElem?_eq_getElem j2] at hu2;simpa using Option.some.inj hu2
    rw [g1,g2]
    exact (ih A.in1 (show A.units + 1 + n < cLine by omega) rp1 rp2 rl1 rl2 hd).1
  have fin:∀ {a a':Addr} {b:Bool} {d d':D},Rep H (.ref a) d->Rep H (.ref a') d'->a0 (n + 1) d d'=some b->SeqAt.RcAt A s (.ref a) (.ref a') b->SeqAt.EqAt A s (.ref a) (.ref a') b:=by
   intro a a' b d d' r1 r2 hd hr
   by_cases z:a=a'
   ·subst z
    rw [vG (n + 1) r1 r2 hd]
    exact SeqAt.EqAt.same _
   ·exact SeqAt.EqAt.of_refs z hr
  cases d with
  | int i=>cases d' with | int j=>exact base r1 r2 e1 e2 h | _=>simp [a0] at h
  | str i=>cases d' with | str j=>exact baseS r1 r2 e1 e2 h | _=>simp [a0] at h
  | lst t xs =>
   cases d' with
   | lst t' ys =>
    have hd:=h
    cases r1 with
    | lst h1 q1 =>
     rename_i a1 us1
     cases r2 with
     | lst h2 q2 =>
      rename_i a2 us2
      cases e1;cases e2
      obtain ⟨its,w1,p1,_⟩:=I.list (SqL.of h1)
      obtain ⟨its',w2,p2,_⟩:=I.list (SqL.of h2)
      have rc:SeqAt.RcAt A s (.ref a1) (.ref a2) b:=by
       unfold a0 at h
       by_cases hl:xs.length=ys.length
       ·rw [if_pos hl] at h
        obtain ⟨e,he,hb⟩:=items q1 q2 w1 w2 hl h
        rw [hb]
        exact SeqAt.RcAt.lists p1.isList p2.isList (by simp [<- w1.length,<- w2.length,q1.length,q2.length,hl]) (by omega) he
       ·rw [if_neg hl] at h
        cases h
        exact SeqAt.RcAt.lists_lengths p1.isList p2.isList (by simp [<- w1.length,<- w2.length,q1.length,q2.length];exact hl) (by omega)
      exact ⟨fin (.lst h1 q1) (.lst h2 q2) hd rc,fun a a' z z'=>by cases z;cases z';exact rc⟩
   | _=>simp [a0] at h
  | tup xs =>
   cases d' with
   | tup ys =>
    have hd:=h
    cases r1 with
    | tup h1 q1 =>
     rename_i a1 us1
     cases r2 with
     | tup h2 q2 =>
      rename_i a2 us2
      cases e1;cases e2
      obtain ⟨its,w1,p1,_⟩:=I.tuple (SqT.of h1)
      obtain ⟨its',w2,p2,_⟩:=I.tuple (SqT.of h2)
      have rc:SeqAt.RcAt A s (.ref a1) (.ref a2) b:=by
       unfold a0 at h
       by_cases hl:xs.length=ys.length
       ·rw [if_pos hl] at h
        obtain ⟨e,he,hb⟩:=items q1 q2 w1 w2 hl h
        have lz:its.toArray.size=its'.toArray.size:=by simp [<- w1.length,<- w2.length,q1.length,q2.length,hl]
        have:=SeqAt.RcAt.tuples (s:=s) (A:=A) (show s.heap.IsTuple _ its.toArray from p1) (show s.heap.IsTuple _ its'.toArray from p2) (by omega) he
        rw [<- lz,Nat.min_self,beq_self_eq_true,Bool.and_true] at this
        rw [hb]
        exact this
       ·rw [if_neg hl] at h;cases h
      exact ⟨fin (.tup h1 q1) (.tup h2 q2) hd rc,fun a a' z z'=>by cases z;cases z';exact rc⟩
   | _=>simp [a0] at h
  | _=>simp [a0] at h
end
section
variable {X:Cx}
noncomputable def pH:D->Bool
 | .lst _ _=>true
 | .tup _=>true
 | _=>false
theorem yW (hu:X.A.units + 4 < cLine):OpR X (compareOp .Eq) (fun x y H Q=>∃ d d' b a a',x=.ref a/\y=.ref a'/\Rep H x d/\Rep H y d'/\a0 4 d d'=some b/\Q (.bl b) H):=by
 intro pins s σ H x y v u Q I rx ry h
 obtain ⟨d,d',b,a,a',rfl,rfl,r1,r2,hd,q⟩:=h
 have:=(o6 I 4 X.A hu r1 r2 rx ry hd).2 a a' rfl rfl
 exact this _ _ _ _ ⟨.bl b,H,I,rfl,q⟩
noncomputable def dEq:D->D->Res D:=fun x y=>if pH x=true/\pH y=true then (match a0 4 x y with
 | some b=>.ok (.bl b)
 | none=>.bad) else eR false x y
theorem cS:∀ x y,noX (dEq x y)=true:=by
 intro x y
 unfold dEq
 split
 ·split <;> rfl
 ·exact fW _ _ _
theorem ld {H:Hp} {v:V} {d:D} (r:Rep H v d) (h:pH d=true):∃ a,v=.ref a:=by
 cases r <;> first | exact ⟨_,rfl⟩ | cases h
theorem eo (hu:X.A.units + 4 < cLine):FOp X (compareOp .Eq) dEq:=by
 refine ⟨OpR.pre (OpR.or (yW hu) (yQ (X:=X)).go) ?_⟩
 rintro x y H Q ⟨Hs,H0,vs,ds,d1,d2,d,S,e,k⟩
 unfold dEq at e
 split at e
 ·rename_i hs
  split at e
  ·rename_i b hb
   cases e
   obtain ⟨a,rfl⟩:=ld S.drop.head hs.1
   obtain ⟨a',rfl⟩:=ld S.head hs.2
   exact .inl ⟨d1,d2,b,a,a',rfl,rfl,S.drop.head,S.head,hb,k _ H S.drop.drop.bl⟩
  ·cases e
 ·exact .inr ⟨Hs,H0,vs,ds,d1,d2,d,S,e,k⟩
end
theorem Reps.drop {H:Hp}:∀ {us:List V} {ds:List D} (k:Nat),Reps H us ds->Reps H (us.drop k) (ds.drop k)
 | _,_,0,r=>r
 | _,_,_ + 1,.nil=>.nil
 | _,_,k + 1,.cons _ r=>Reps.drop k r
theorem Reps.take {H:Hp}:∀ {us:List V} {ds:List D} (k:Nat),Reps H us ds->Reps H (us.take k) (ds.take k)
 | _,_,0,_=>.nil
 | _,_,_ + 1,.nil=>.nil
 | _,_,k + 1,.cons h r=>.cons h (Reps.take k r)
noncomputable def TOF (H0:Hp) (Ex:Value->Prop) (f:ae->Res (Option Int)):St->Hp->(Option Int->Hp->Prop)->Prop:=fun σ H Q=>∃ Hs ρ ts,SX Hs H0 H ts σ ρ ∧
 Post Ex (f ρ) fun o=>∀ H',SX Hs H0 H' ts σ ρ->Q o H'
structure FO (X:Cx) (H0:Hp) (Ex:Value->Prop) (e:Option Expr) (f:ae->Res (Option Int)):Prop where
 go:PO X e (TOF H0 Ex f)
section
variable {X:Cx} {Ex:Value->Prop} {H0:Hp} {e:Expr} {lo hi:Option Expr} {f:ae->Res D} {fl fh:ae->Res (Option Int)} {pos p2:Pos}
noncomputable def foN:ae->Res (Option Int):=fun _=>.ok none
noncomputable def foS (f:ae->Res D):ae->Res (Option Int):=fun ρ=>f ρ >>= fun d=>match d with
 | .int i=>.ok (some i)
 | _=>.bad
theorem gf:FO X H0 Ex none foN:=by
 refine ⟨?_⟩
 intro pins s σ H Q I h
 obtain ⟨Hs,ρ,ts,S,p⟩:=h
 exact wX pins s σ H Q I (p H S)
theorem gh (h:FE X H0 Ex e f):FO X H0 Ex (some e) (foS f):=by
 refine ⟨?_⟩
 intro pins s σ H Q I q
 obtain ⟨Hs,ρ,ts,S,p⟩:=q
 refine wY h.go pins s σ H Q I ⟨Hs,ρ,ts,S,(Post.bind p).imp fun d _ p1 v H1 S1=>?_⟩
 cases d with
 | int i=>exact ⟨i,SR.isInt S1,p1 H1 S1.drop⟩
 | _=>exact p1.elim
noncomputable def eT (x:Str) (l h:Option Int):Str:=if (Builtin.Str.strSliceIndices l h 1 x.length).length=x.length then x else ⟨((Builtin.Str.strSliceIndices l h 1 x.length).filterMap (x.cps[·]?)).toArray⟩
theorem yX:SlR X (fun x l h H Q=>∃ z,x=.str z/\(eT z l h).length <= sizeLine/\Q (.str (eT z l h)) H):=by
 intro pins s σ H x v vl vu l h sl Q I rx hs pl pu q
 obtain ⟨z,rfl,hz,q⟩:=q
 obtain ⟨t,rfl⟩:=rx
 refine ⟨"str", _,PySem.F.slot_str_getitem.lookup,typeIs_str s z t,?_⟩
 obtain ⟨l',rfl,el⟩:∃ l':Option (Int × Tok),vl=partValue l'/\l=l'.map (·.1):=by
  cases pl with
  | none=>exact ⟨none,rfl,rfl⟩
  | int i t=>exact ⟨some (i,t),rfl,rfl⟩
 obtain ⟨u',rfl,eu⟩:∃ u':Option (Int × Tok),vu=partValue u'/\h=u'.map (·.1):=by
  cases pu with
  | none=>exact ⟨none,rfl,rfl⟩
  | int i t=>exact ⟨some (i,t),rfl,rfl⟩
 refine wpAny_getItem_str_slice (l:=l') (u:=u') (st:=none) hs rfl ?_
 unfold sliceMade
 have hp:slicePicked z l' u' none=Builtin.Str.strSliceIndices l h 1 z.length:=by rw [el,eu];rfl
 rw [hp]
 by_cases hc:(Builtin.Str.strSliceIndices l h 1 z.length).length=z.length
 ·rw [if_pos (by simp [hc])]
  have:eT z l h=z:=by unfold eT;rw [if_pos hc]
  rw [this] at q
  exact ⟨.str z,H,I,⟨t,rfl⟩,q⟩
 ·rw [if_neg (by simp [hc])]
  have:eT z l h=⟨((Builtin.Str.strSliceIndices l h 1 z.length).filterMap (z.cps[·]?)).toArray⟩:=by unfold eT;rw [if_neg hc]
  rw [this] at q hz
  exact ⟨hz,.str _,H,I.tok _,⟨_,rfl⟩,q⟩
noncomputable def pI (xs:List D) (l h:Option Int):List D:=(xs.drop (HT.sIx xs.length 0 l)).take (HT.sIx xs.length xs.length h - HT.sIx xs.length 0 l)
theorem Reps.cut {H:Hp} {us:List V} {ds:List D} (r:Reps H us ds) (l h:Option Int):Reps H (nv us l h) (pI ds l h):=by
 unfold nv pI
 rw [r.length]
 exact (r.drop _).take _
noncomputable def dSl (d:D) (l h:Option Int):Res D:=match d with
 | .str z=>if (eT z l h).length <= sizeLine then .ok (.str (eT z l h)) else .bad
 | .lst t xs=>match D.its (.lst t xs) with
  | some ys=>.ok (.lst .o (pI ys l h))
  | none=>.bad
 | _=>.bad
noncomputable def fSl (f:ae->Res D) (fl fh:ae->Res (Option Int)):ae->Res D:=fun ρ=>f ρ >>= fun d=>fl ρ >>= fun l=>fh ρ >>= fun h=>dSl d l h
theorem fj (he:FE X H0 Ex e f) (hl:FO X H0 Ex lo fl) (hh:FO X H0 Ex hi fh):FE X H0 Ex (.Subscript e (.Slice lo hi none p2) pos) (fSl f fl fh):=by
 refine ⟨PE.pre (vf (SlR.or yX wZ) he.go hl.go hh.go) ?_⟩
 rintro σ H Q ⟨Hs,ρ,ts,S,p⟩
 refine ⟨Hs,ρ,ts,S,(Post.bind p).imp fun d _ p1 v H1 S1=>⟨Hs,ρ,(v,d)::ts,S1,(Post.bind p1).imp fun l _ p2 H2 S2=>⟨Hs,ρ,(v,d)::ts,S2,(Post.bind p2).imp fun h _ p3 H3 S3=>?_⟩⟩⟩
 have S3:SR Hs H0 H3 (some v::(tvs ts ++ σ)) (some d::(tds ts ++ ρ)):=S3
 cases d with
 | str z =>
  cases SR.isStr S3
  have p3:Post Ex (if (eT z l h).length <= sizeLine then .ok (.str (eT z l h)) else .bad) fun d=>∀ v H',SX Hs H0 H' ((v,d)::ts) σ ρ->Q v H':=p3
  split at p3
  ·rename_i hz
   exact .inl ⟨z,rfl,hz,p3 _ H3 S3.drop.str⟩
  ·exact p3.elim
 | lst t xs =>
  have p3:Post Ex (match D.its (.lst t xs) with
   | some ys=>.ok (.lst .o (pI ys l h))
   | none=>.bad) fun d=>∀ v H',SX Hs H0 H' ((v,d)::ts) σ ρ->Q v H':=p3
  cases ei:D.its (.lst t xs) with
  | none=>rw [ei] at p3;exact p3.elim
  | some ys =>
   rw [ei] at p3
   obtain ⟨a,us,rfl,ha,Hf,fp,O,F,R⟩:=S3.items ei
   refine .inr ⟨a,us,rfl,SqL.of ha,fun q hq=>p3 _ _ (SR.laidL O F (R.cut l h) (fun e m=>D.its_tag ei e ?_) hq)⟩
   unfold pI at m
   exact List.mem_of_mem_drop (List.mem_of_mem_take m)
 | _=>exact p3.elim
end
section
variable {X:Cx} {Ex:Value->Prop} {H0:Hp} {k:Expr} {fk:ae->Res D} {pos:Pos}
noncomputable def gp:List D->Option (List Bool)
 | []=>some []
 | .bl b::r=>(gp r).map (b::·)
 | _=>none
theorem om {H:Hp}:∀ {us:List V} {xs:List D} {bs:List Bool},Reps H us xs->gp xs=some bs->us=bs.map V.bl
 | _,_,_,.nil,h=>by simp [gp] at h;subst h;rfl
 | _,_,bs,.cons (d:=d) a r,h=>by
  cases d with
  | bl b =>
   cases a
   unfold gp at h
   cases e:gp _ with
   | none=>rw [e] at h;cases h
   | some cs=>rw [e] at h;cases h;rw [om r e];rfl
  | _=>cases h
theorem tV (hc:X.calm=true):CallR X (.builtin "all") (fun us H Q=>∃ (a:Addr) (bs:List Bool),us=[.ref a]/\SqL X.K H a (bs.map V.bl)/\Q (.bl (bs.all id)) H):=by
 intro pins s σ H xs us Q I r h
 obtain ⟨a,bs,rfl,hq,q⟩:=h
 cases r with
 | cons r1 r2 =>
  cases r2
  cases r1
  obtain ⟨its,w,pl,hz⟩:=I.list hq
  have hl:=w.length
  have hlt:a < s.heap.objs.size:=by obtain ⟨_,e,_⟩:=pl.isList;exact Heap.lt_size e
  refine call_all_walk (wpAny_pyIter_list pl.isList ?_)
  refine ⟨s.heap.objs.size,[s.heap.objs.size,a],[s.heap.objs.size],its.toArray.size,_,_,fun i=>(bs[i]?).getD true,rfl,Walks.list (A:=X.A.in1) (I.ok.hd hc) _ a (Nat.ne_of_lt hlt) its.toArray,
   ⟨⟨_,Heap.get?_push_size _ rfl,rfl,rfl⟩,pl.isList.push _⟩,fun i v s' Q' E' hP hQ=>?_,fun h' tk hk=>?_⟩
  ·have hP:its[i]?=some v:=by simpa using hP
   obtain ⟨hi,hv⟩:=List.getElem?_eq_some_iff.mp hP
   have hb:i < bs.length:=by rw [List.length_map] at hl;omega
   obtain ⟨u',hu',ru'⟩:=w.get (i:=i) (x:=.bl bs[i]) (by rw [List.getElem?_map,List.getElem?_eq_getElem hb];rfl)
   rw [hP] at hu'
   cases hu'
   cases ru'
   have hQ:Q' ((bs[i]?).getD true) s':=hQ
   rw [List.getElem?_eq_getElem hb] at hQ
   exact wpAny_truthy_bool hQ
  ·have e:((List.range its.toArray.size).all fun i=>(bs[i]?).getD true)=bs.all id:=by
      have hsz:its.toArray.size=bs.length:=by rw [List.size_toArray,<- hl,List.length_map]
      rw [hsz,Bool.eq_iff_iff,List.all_eq_true,List.all_eq_true]
      constructor
      ·intro h b hb
       obtain ⟨i,hi,rfl⟩:=List.getElem_of_mem hb
       have:=h i (List.mem_range.mpr hi)
       rw [List.getElem?_eq_getElem hi] at this
       exact this
      ·intro h i hi
       have hi:=List.mem_range.mp hi
       rw [List.getElem?_eq_getElem hi]
       exact h _ (List.getElem_mem hi)
   rw [e]
   refine ⟨.bl _,H,I.kept (t':=tk) (h':=h') fun b o e=>?_,rfl,q⟩
   exact hk b o (fun hm=>by rw [List.mem_singleton.mp hm] at e;exact Nat.lt_irrefl _ (Heap.lt_size e)) (Heap.get?_push_of_some _ e)
noncomputable def jc:List D->Res D
 | [.lst _ xs]=>match gp xs with
  | some bs=>.ok (.bl (bs.all id))
  | none=>.bad
 | _=>.bad
theorem pJ:∀ es,noX (jc es)=true:=by
 intro es
 unfold jc
 split
 ·split <;> rfl
 ·rfl
theorem tW (hc:X.calm=true):FCall X (.builtin "all") jc:=by
 refine ⟨CallR.pre (tV hc) ?_⟩
 rintro us H Q ⟨Hs,H0,vs,ds,es,d,hl,S,e,kq⟩
 unfold jc at e
 split at e
 ·rename_i t xs
  split at e
  ·rename_i bs hb
   cases e
   obtain ⟨u,rfl⟩:=eJ hl rfl
   have S':SR Hs H0 H (some u::vs) (some (.lst t xs)::ds):=S
   have hh:=S'.head
   cases hh with
   | lst q R =>
    refine ⟨_,bs,rfl,?_,kq _ H S'.drop.bl⟩
    rw [<- om R hb]
    exact SqL.of q
  ·cases e
 ·cases e
noncomputable def eP (i j:Nat) (fk:ae->Res D):ae->FOut:=fun ρ=>match ρ[i]?,ρ[j]? with
 | some (some (.lst .o xs)),some (some (.lst .o ys))=>aft (fk ρ) fun d=>match d with
  | .int m=>match seqIndex? m ys.length with
   | some q=>match ys[q]? with
    | some y=>if y.tag=.b \/ sizeLine <= xs.length \/ i=j \/ m < -(2 ^ 63) \/ 2 ^ 63 <= m then .bad else .nx ((ρ.set j (some (.lst .o (ys.eraseIdx q)))).set i (some (.lst .o (xs ++ [y]))))
    | none=>.bad
   | none=>.bad
  | _=>.bad
 | _,_=>.bad
theorem tX {i j:Nat} {x y:Str} {p1 p2 p3 q1 q2 q3:Pos} (hv:PV X (.Name x p1) i) (hw:PV X (.Name y q1) j) (hk:FE X H0 Ex k fk)
    (hbase:attributeBase (.Name x p1) "append" X.env (eval (.Name x p1) X.env)=eval (.Name x p1) X.env:=by rfl)
    (hbase2:attributeBase (.Name y q1) "pop" X.env (eval (.Name y q1) X.env)=eval (.Name y q1) X.env:=by rfl)
    (hfew:((backTo p3 (starEach [.Call (.Attribute (.Name y q1) "pop" q2) [k] [] q3] X.env)).all (fun x=>!x.1) && (backToKw p3 (keywordEach [] X.env)).all (fun x=>x.1.isSome) && decide (([.Call (.Attribute (.Name y q1) "pop" q2) [k] [] q3]:List Expr).length + ([]:List Keyword).length + (if ([]:List Keyword).isEmpty then 0 else 1) < 30))=true:=by rfl)
    (hfew2:((backTo q3 (starEach [k] X.env)).all (fun x=>!x.1) && (backToKw q3 (keywordEach [] X.env)).all (fun x=>x.1.isSome) && decide (([k]:List Expr).length + ([]:List Keyword).length + (if ([]:List Keyword).isEmpty then 0 else 1) < 30))=true:=by rfl)
    (hline:(p2.endLine == p3.line)=true:=by rfl) (hline2:(q2.endLine == q3.line)=true:=by rfl) (hplain:(backTo p3 (starEach [] X.env)).any (·.1)=false:=by rfl) (hplain2:(backTo q3 (starEach [] X.env)).any (·.1)=false:=by rfl)
    (hs1:starEach [.Call (.Attribute (.Name y q1) "pop" q2) [k] [] q3] X.env=(false,eval (.Call (.Attribute (.Name y q1) "pop" q2) [k] [] q3) X.env)::starEach [] X.env:=by rfl) (hs2:starEach [k] X.env=(false,eval k X.env)::starEach [] X.env:=by rfl)
    (hsw:swapsWith (.Call (.Attribute (.Name x p1) "append" p2) [.Call (.Attribute (.Name y q1) "pop" q2) [k] [] q3] [] p3) none pos.line X.env=pure false:=by rfl) :
    FS X H0 Ex (.Expr (.Call (.Attribute (.Name x p1) "append" p2) [.Call (.Attribute (.Name y q1) "pop" q2) [k] [] q3] [] p3) pos) (eP i j fk):=by
 refine ⟨PS.pre (kR (kW PySem.F.plainAttrs_list PySem.F.slot_list_append PySem.F.type_list_append kc hv.go
  (dw (kW PySem.F.plainAttrs_list PySem.F.slot_list_pop PySem.F.type_list_pop vk hw.go (dw hk.go eG hs2) hbase2 hfew2 hline2 hs2 hplain2) eG hs1) hbase hfew hline hs1 hplain) hsw) ?_⟩
 rintro En σ H ⟨Hs,ρ,⟨S,n⟩,p⟩
 unfold eP at p
 split at p
 ·rename_i xs ys hx hy
  obtain ⟨q,us,hq,hH,hl⟩:=S.recv hx
  obtain ⟨q',us',hq',hH',hl'⟩:=S.recv hy
  refine ⟨.ref q,hq,.inl ⟨rfl,us,SqL.of hH⟩,.ref q',hq',.inl ⟨rfl,us',SqL.of hH'⟩,Hs,ρ,[],S,(PostS.aft p).imp fun d _ p1 v H1 S1=>?_⟩
  cases d with
  | int m =>
   have S1:SR Hs H0 H1 (some v::σ) (some (.int m)::ρ):=S1
   cases SR.isInt S1
   have p1:PostS Hs H0 Ex En (match seqIndex? m ys.length with
    | some q=>match ys[q]? with
     | some y=>if y.tag=.b \/ sizeLine <= xs.length \/ i=j \/ m < -(2 ^ 63) \/ 2 ^ 63 <= m then .bad else .nx ((ρ.set j (some (.lst .o (ys.eraseIdx q)))).set i (some (.lst .o (xs ++ [y]))))
     | none=>.bad
    | none=>.bad):=p1
   cases e1:seqIndex? m ys.length with
   | none=>rw [e1] at p1;exact p1.elim
   | some c =>
    rw [e1] at p1
    dsimp only at p1
    cases e2:ys[c]? with
    | none=>rw [e2] at p1;exact p1.elim
    | some z =>
     rw [e2] at p1
     dsimp only at p1
     split at p1
     ·exact p1.elim
     ·rename_i hc
      have hz:z.tag ≠ .b:=fun w=>hc (.inl w)
      have hij:i ≠ j:=fun w=>hc (.inr (.inr (.inl w)))
      obtain ⟨a,vs,u,ha,hHa,hla,hu,S2⟩:=S1.drop.popAt n hy e2 hz
      rw [hq'] at ha
      cases ha
      have n2:noB (ρ.set j (some (.lst .o (ys.eraseIdx c)))):=n.set fun d' w=>by cases w;exact fun y=>nomatch y
      obtain ⟨b,ws,hb,hHb,hlb,S3⟩:=S2.append hz n2 (i:=i) (xs:=xs) (by rw [List.getElem?_set_ne (Ne.symm hij)];exact hx)
      rw [hq] at hb
      cases hb
      refine ⟨q',vs,m,c,u,rfl,rfl,hHa,?_,?_,by rw [hla];exact e1,hu,q,ws,u,rfl,rfl,hHb,?_,p1 σ _ ⟨S3,n2.set fun d' w=>by cases w;exact fun y=>nomatch y⟩⟩
      ·exact Int.not_lt.mp fun w=>hc (.inr (.inr (.inr (.inl w))))
      ·exact Int.not_le.mp fun w=>hc (.inr (.inr (.inr (.inr w))))
      ·rw [hlb]
       exact Nat.lt_of_not_le fun w=>hc (.inr (.inl w))
  | _=>exact p1.elim
 ·exact p.elim
end
section
variable {prog:Program} {w:World} {A:Around} {E:Value->Shared->Prop} {s:Shared}
structure ZAp (zp tI tO j1 j2:Addr) (f1 f2:List Addr):Prop where
 a1:tO ≠ zp
 a2:j1 ≠ zp
 a3:j2 ≠ zp
 a4:tO ≠ j1
 a5:tO ≠ j2
 a6:j1 ≠ j2
 b1:∀ b ∈ f1,b ≠ zp/\b ≠ tO/\b ≠ j2
 b2:∀ b ∈ f2,b ≠ zp/\b ≠ tO/\b ≠ j1
 c1:tI ≠ zp
 c2:tI ≠ tO
 c3:tI ≠ j1
 c4:tI ≠ j2
variable {zp tI tO j1 j2:Addr} {f1 f2:List Addr} {n1 n2 k:Nat} {P1 P2:Nat->Value->Prop} {S1 S2:Nat->Heap->Prop} {a b:Value}
theorem ww {Q:Bool->Shared->Prop} (hz:IsZip s.heap zp tI tO .none) (h:Q true s):wpAny (model prog w) A (Builtin.SmallTypes.ownedTupleIsFree (.ref zp)) Q E s:=by
 unfold Builtin.SmallTypes.ownedTupleIsFree;refine wpAny_bind (wpAny_field hz rfl (x:=.none) rfl (wpAny_pure h))
theorem tY {Q:Value->Shared->Prop} (D1:Draws prog w A j1 f1 n1 P1 S1) (D2:Draws prog w A j2 f2 n2 P2 S2) (ap:ZAp zp tI tO j1 j2 f1 f2)
    (hz:IsZip s.heap zp tI tO .none) (hTI:IsPair s.heap tI (.ref j1) (.ref j2)) (hTO:IsPair s.heap tO a b) (h1:S1 k s.heap) (h2:S2 k s.heap) (l1:k < n1) (l2:k < n2)
    (hQ:∀ x y h' tk,P1 k x->P2 k y->IsZip h' zp tI tO (rawInt s.heap.objs.size)->IsPair h' tO x y->S1 (k + 1) h'->S2 (k + 1) h'->IsPair h' s.heap.objs.size x y →
     (∀ c o,c ≠ zp->c ≠ tO->c ≠ j1->c ≠ j2->s.heap.get? c=some o->h'.get? c=some o)->Q (.ref s.heap.objs.size) { s with heap:=h',toks:=tk }) :
    wpAny (model prog w) A (Builtin.«zip.__next__» ⟨[.ref zp],[]⟩) (fun fin s'=>∃ v,fin=.done (.ret v)/\Q v s') E s:=by
 show wpAny _ _ (field (.ref zp) 2 >>= _) _ _ _
 refine wpAny_bind (wpAny_field hz rfl (x:=.bool false) rfl (show wpAny _ _ (field (.ref zp) 3 >>= _) _ _ _ from wpAny_bind (wpAny_field hz rfl (x:=.ref tI) rfl (wpAny_bind (wpAny_seqItems hTI rfl ?_)))))
 show wpAny _ _ (Builtin.SmallTypes.ownedTupleIsFree (.ref zp) >>= _) _ _ _
 refine wpAny_bind (ww hz ?_)
 simp only [if_true]
 refine wpAny_bind (wpAny_rule (wpAny_bind (wpAny_field hz rfl (x:=.ref tO) rfl (wpAny_bind (wpAny_setField_rec hz (by simp) fun g1 hz1 e1=>?_)))))
 have hz1:IsZip g1 zp tI tO .ellipsis:=hz1
 refine wpAny_bind ?_
 simp only [List.zipIdx_cons,List.zipIdx_nil,List.forIn_cons,List.forIn_nil]
 refine wpAny_bind (wpAny_bind (wpAny_onRaise (show wpAny _ _ (Builtin.SmallTypes.nextOf (.ref j1) >>= _) _ _ _ from ?_)))
 have s1:S1 k g1:=D1.frame k _ _ h1 fun b hb o e=>e1.extBut _ _ (ap.b1 b hb).1 e
 refine wpAny_bind (D1.item k { s with heap:=g1 } _ _ l1 s1 fun x g2 t2 px s1' e2=>wpAny_pure ?_)
 have hTO2:IsPair g2 tO a b:=e2.extBut _ _ ap.a4 (e1.extBut _ _ ap.a1 hTO)
 refine wpAny_bind (wpAny_seqItems hTO2 rfl (wpAny_bind (wpAny_updateSeq_pair (s:={ s with heap:=g2,toks:=t2 }) hTO2 fun g3 hTO3 e3=>?_)))
 have hTO3:IsPair g3 tO x b:=hTO3
 refine wpAny_bind (wpAny_letGo (wpAny_pure (wpAny_bind (wpAny_bind (wpAny_onRaise (show wpAny _ _ (Builtin.SmallTypes.nextOf (.ref j2) >>= _) _ _ _ from ?_))))))
 have s2:S2 k g3:=D2.frame k _ _ h2 fun b hb o e=>e3.extBut _ _ (ap.b2 b hb).2.1 (e2.extBut _ _ (ap.b2 b hb).2.2 (e1.extBut _ _ (ap.b2 b hb).1 e))
 refine wpAny_bind (D2.item k { s with heap:=g3,toks:=t2 } _ _ l2 s2 fun y g4 t4 py s2' e4=>wpAny_pure ?_)
 have hTO4:IsPair g4 tO x b:=e4.extBut _ _ ap.a5 hTO3
 refine wpAny_bind (wpAny_seqItems hTO4 rfl (wpAny_bind (wpAny_updateSeq_pair (s:={ s with heap:=g4,toks:=t4 }) hTO4 fun g5 hTO5 e5=>?_)))
 have hTO5:IsPair g5 tO x y:=hTO5
 refine wpAny_bind (wpAny_letGo (wpAny_pure (wpAny_pure (wpAny_bind (wpAny_seqItems hTO5 rfl (wpAny_bind (wpAny_newTuple ?_)))))))
 have sz:g5.objs.size=s.heap.objs.size:=by rw [e5.1,e4.1,e3.1,e2.1,e1.1]
 have hz5:IsZip g5 zp tI tO .ellipsis:=e5.extBut _ _ ap.a1.symm (e4.extBut _ _ ap.a3.symm (e3.extBut _ _ ap.a1.symm (e2.extBut _ _ ap.a2.symm hz1)))
 have kp5:∀ c o,c ≠ zp->c ≠ tO->c ≠ j1->c ≠ j2->s.heap.get? c=some o->g5.get? c=some o:=fun c o q1 q2 q3 q4 e=>e5.extBut _ _ q2 (e4.extBut _ _ q4 (e3.extBut _ _ q2 (e2.extBut _ _ q3 (e1.extBut _ _ q1 e))))
 have s15:S1 (k + 1) g5:=D1.frame _ _ _ s1' fun b hb o e=>e5.extBut _ _ (ap.b1 b hb).2.1 (e4.extBut _ _ (ap.b1 b hb).2.2 (e3.extBut _ _ (ap.b1 b hb).2.1 e))
 have s25:S2 (k + 1) g5:=D2.frame _ _ _ s2' fun b hb o e=>e5.extBut _ _ (ap.b2 b hb).2.1 e
 have lz:zp < g5.objs.size:=Heap.lt_size hz5
 refine (show wpAny _ _ (Builtin.SmallTypes.ownedTupleHandOut (.ref zp) (.ref g5.objs.size) >>= _) _ _ _ from wpAny_bind (by
  unfold Builtin.SmallTypes.ownedTupleHandOut
  have hz6:IsZip (g5.push { cls:=.type "tuple", data:=.seq #[x,y] }) zp tI tO .ellipsis:=Heap.get?_push_of_some _ hz5
  refine wpAny_bind (wpAny_setField_rec hz6 (by simp) fun g7 hz7 e7=>?_)
  have hz7:IsZip g7 zp tI tO (rawInt g5.objs.size):=hz7
  refine wpAny_setField_rec hz7 (by simp) fun g8 hz8 e8=>wpAny_pure ⟨_,rfl,?_⟩
  have hz8:IsZip g8 zp tI tO (rawInt g5.objs.size):=hz8
  have up:∀ c o,c ≠ zp->g5.get? c=some o->g8.get? c=some o:=fun c o q1 e=>e8.extBut _ _ q1 (e7.extBut _ _ q1 (Heap.get?_push_of_some _ e))
  have hT8:IsPair g8 g5.objs.size x y:=e8.extBut _ _ (Nat.ne_of_gt lz) (e7.extBut _ _ (Nat.ne_of_gt lz) (Heap.get?_push_size _ rfl))
  show Q (.ref g5.objs.size) _
  rw [sz] at hz8 hT8 ⊢
  exact hQ x y g8 t4 px py hz8 (up _ _ ap.a1 hTO5) (D1.frame _ _ _ s15 fun b hb o e=>up _ _ (ap.b1 b hb).1 e) (D2.frame _ _ _ s25 fun b hb o e=>up _ _ (ap.b2 b hb).1 e) hT8 fun c o q1 q2 q3 q4 e=>up c o q1 (kp5 c o q1 q2 q3 q4 e)))
theorem vH {Q:Fin->Shared->Prop} (D1:Draws prog w A j1 f1 n1 P1 S1) (D2:Draws prog w A j2 f2 n2 P2 S2) (ap:ZAp zp tI tO j1 j2 f1 f2)
    (hz:IsZip s.heap zp tI tO .none) (hTI:IsPair s.heap tI (.ref j1) (.ref j2)) (hTO:IsPair s.heap tO a b) (h1:S1 k s.heap) (h2:S2 k s.heap) (hend:k=n1 \/ (k < n1/\k=n2))
    (hE:∀ h' e tk,(∀ c o,c ≠ zp->c ≠ tO->c ≠ j1->c ≠ j2->s.heap.get? c=some o->h'.get? c=some o)->(∃ o,h'.get? e=some o/\o.cls=.type "StopIteration")->E (.ref e) { s with heap:=h',toks:=tk }) :
    wpAny (model prog w) A (Builtin.«zip.__next__» ⟨[.ref zp],[]⟩) Q E s:=by
 show wpAny _ _ (field (.ref zp) 2 >>= _) _ _ _
 refine wpAny_bind (wpAny_field hz rfl (x:=.bool false) rfl (show wpAny _ _ (field (.ref zp) 3 >>= _) _ _ _ from wpAny_bind (wpAny_field hz rfl (x:=.ref tI) rfl (wpAny_bind (wpAny_seqItems hTI rfl ?_)))))
 show wpAny _ _ (Builtin.SmallTypes.ownedTupleIsFree (.ref zp) >>= _) _ _ _
 refine wpAny_bind (ww hz ?_)
 simp only [if_true]
 refine wpAny_bind (wpAny_rule (wpAny_bind (wpAny_field hz rfl (x:=.ref tO) rfl (wpAny_bind (wpAny_setField_rec hz (by simp) fun g1 hz1 e1=>?_)))))
 have hz1:IsZip g1 zp tI tO .ellipsis:=hz1
 refine wpAny_bind ?_
 simp only [List.zipIdx_cons,List.zipIdx_nil,List.forIn_cons,List.forIn_nil]
 refine wpAny_bind (wpAny_bind (wpAny_onRaise (show wpAny _ _ (Builtin.SmallTypes.nextOf (.ref j1) >>= _) _ _ _ from ?_)))
 have s1:S1 k g1:=D1.frame k _ _ h1 fun b hb o e=>e1.extBut _ _ (ap.b1 b hb).1 e
 rcases hend with rfl | ⟨l1,rfl⟩
 ·refine wpAny_bind (D1.done { s with heap:=g1 } _ _ s1 fun g2 e e2 he=>?_)
  obtain ⟨oe,hoe,hce⟩:=he
  have hz2:IsZip g2 zp tI tO .ellipsis:=e2 _ _ ap.a2.symm hz1
  have ne:e ≠ zp:=fun q=>by subst q;rw [hz2] at hoe;cases hoe;simp at hce
  exact wpAny_setField_rec hz2 (by simp) fun g3 _ e3=>hE g3 e s.toks (fun c o q1 _ q3 _ q=>e3.extBut _ _ q1 (e2 _ _ q3 (e1.extBut _ _ q1 q))) ⟨oe,e3.extBut _ _ ne hoe,hce⟩
 ·refine wpAny_bind (D1.item k { s with heap:=g1 } _ _ l1 s1 fun x g2 t2 px s1' e2=>wpAny_pure ?_)
  have hTO2:IsPair g2 tO a b:=e2.extBut _ _ ap.a4 (e1.extBut _ _ ap.a1 hTO)
  refine wpAny_bind (wpAny_seqItems hTO2 rfl (wpAny_bind (wpAny_updateSeq_pair (s:={ s with heap:=g2,toks:=t2 }) hTO2 fun g3 hTO3 e3=>?_)))
  refine wpAny_bind (wpAny_letGo (wpAny_pure (wpAny_bind (wpAny_bind (wpAny_onRaise (show wpAny _ _ (Builtin.SmallTypes.nextOf (.ref j2) >>= _) _ _ _ from ?_))))))
  have s2:S2 k g3:=D2.frame k _ _ h2 fun b hb o e=>e3.extBut _ _ (ap.b2 b hb).2.1 (e2.extBut _ _ (ap.b2 b hb).2.2 (e1.extBut _ _ (ap.b2 b hb).1 e))
  refine wpAny_bind (D2.done { s with heap:=g3,toks:=t2 } _ _ s2 fun g4 e e4 he=>?_)
  obtain ⟨oe,hoe,hce⟩:=he
  have hz4:IsZip g4 zp tI tO .ellipsis:=e4 _ _ ap.a3.symm (e3.extBut _ _ ap.a1.symm (e2.extBut _ _ ap.a2.symm hz1))
  have ne:e ≠ zp:=fun q=>by subst q;rw [hz4] at hoe;cases hoe;simp at hce
  exact wpAny_setField_rec (s:={ s with heap:=g4,toks:=t2 }) hz4 (by simp) fun g5 _ e5=>hE g5 e t2 (fun c o q1 q2 q3 q4 q=>e5.extBut _ _ q1 (e4 _ _ q4 (e3.extBut _ _ q2 (e2.extBut _ _ q3 (e1.extBut _ _ q1 q))))) ⟨oe,e5.extBut _ _ ne hoe,hce⟩
end
section
variable {prog:Program} {w:World} {A:Around} {E:Value->Shared->Prop} {s:Shared}
variable {zp tI tO j1 j2:Addr} {f1 f2:List Addr} {n1 n2 k:Nat} {P1 P2:Nat->Value->Prop} {S1 S2:Nat->Heap->Prop} {a b:Value}
theorem tZ {Q:Option Value->Shared->Prop} (hh:A.handled=none) (D1:∀ A':Around,A'.handled=none->Draws prog w A' j1 f1 n1 P1 S1) (D2:∀ A':Around,A'.handled=none->Draws prog w A' j2 f2 n2 P2 S2) (ap:ZAp zp tI tO j1 j2 f1 f2)
    (hz:IsZip s.heap zp tI tO .none) (hTI:IsPair s.heap tI (.ref j1) (.ref j2)) (hTO:IsPair s.heap tO a b) (h1:S1 k s.heap) (h2:S2 k s.heap) (l1:k < n1) (l2:k < n2)
    (hQ:∀ x y h' tk,P1 k x->P2 k y->IsZip h' zp tI tO (rawInt s.heap.objs.size)->IsPair h' tO x y->S1 (k + 1) h'->S2 (k + 1) h'->IsPair h' s.heap.objs.size x y →
     (∀ c o,c ≠ zp->c ≠ tO->c ≠ j1->c ≠ j2->s.heap.get? c=some o->h'.get? c=some o)->Q (some (.ref s.heap.objs.size)) { s with heap:=h',toks:=tk }):wpAny (model prog w) A (pyNext (.ref zp)) Q E s:=by
 have ty:s.TypeIs (.ref zp) "zip" := ⟨_,hz,rfl⟩
 unfold pyNext
 exact wpAny_bind (wpAny_attempt (wpAny_callSpecial?_slot (name:=Str.ofString "__next__") ty F.slot_zip_next (wpAny_call_entry F.slot_zip_next ty F.entry_zip_next
  (tY (D1 _ hh) (D2 _ hh) ap hz hTI hTO h1 h2 l1 l2 fun x y h' tk r1 r2 r3 r4 r5 r6 r7 r8=>wpAny_pure (hQ x y h' tk r1 r2 r3 r4 r5 r6 r7 r8)) (F.args_zip_next_1 _))))
theorem t0 {Q:Option Value->Shared->Prop} (hh:A.handled=none) (D1:∀ A':Around,A'.handled=none->Draws prog w A' j1 f1 n1 P1 S1) (D2:∀ A':Around,A'.handled=none->Draws prog w A' j2 f2 n2 P2 S2) (ap:ZAp zp tI tO j1 j2 f1 f2)
    (hz:IsZip s.heap zp tI tO .none) (hTI:IsPair s.heap tI (.ref j1) (.ref j2)) (hTO:IsPair s.heap tO a b) (h1:S1 k s.heap) (h2:S2 k s.heap) (hend:k=n1 \/ (k < n1/\k=n2))
    (hQ:∀ h' tk,(∀ c o,c ≠ zp->c ≠ tO->c ≠ j1->c ≠ j2->s.heap.get? c=some o->h'.get? c=some o)->Q none { s with heap:=h',toks:=tk }):wpAny (model prog w) A (pyNext (.ref zp)) Q E s:=by
 have ty:s.TypeIs (.ref zp) "zip" := ⟨_,hz,rfl⟩
 unfold pyNext
 refine wpAny_bind (wpAny_attempt (wpAny_callSpecial?_slot (name:=Str.ofString "__next__") ty F.slot_zip_next (wpAny_call_entry F.slot_zip_next ty F.entry_zip_next
  (vH (D1 _ hh) (D2 _ hh) ap hz hTI hTO h1 h2 hend fun h' e tk kp he=>?_) (F.args_zip_next_1 _))))
 obtain ⟨o,ho,hc⟩:=he
 exact wpAny_bind (wpAny_isInstance (T := "StopIteration") (b:=true) ⟨o,ho,hc⟩ isSubtype_stop (wpAny_pure (hQ _ _ kp)))
end
noncomputable abbrev zh1 (h:Heap) (l:Addr):Heap:=h.push { cls:=.type "list_iterator", data:=.fields #[.ref l,.int 0 0] }
theorem Inv.turnLay {X:Cx} {pins:List (Addr × Obj)} {σ:St} {H:Hp} {s:Shared} {h':Heap} {ch:List Addr} {T:Addr} {us:List V} {tk:Nat} (I:Inv X pins σ H s) (kp:∀ b o,b ∉ ch->s.heap.get? b=some o->h'.get? b=some o) (hf:∀ b ∈ ch,gA X pins H b)
    (hT:s.heap.objs.size <= T) (new:ObjOk X.prog X.w (upd H T (.tup us)) h' T (.tup us)):Inv X pins σ (upd H T (.tup us)) { s with heap:=h',toks:=tk }:=by
 have hTn:=I.hok.fresh hT
 have neT:∀ b o,s.heap.get? b=some o->b ≠ T:=fun b o e=>Nat.ne_of_lt (Nat.lt_of_lt_of_le (Heap.lt_size e) hT)
 have up:∀ b o,H b=some o->upd H T (.tup us) b=some o:=fun b o e=>by rw [aZ (bB e hTn)];exact e
 refine I.step (g':=s.gens) (d':=s.drawn) (ch:=ch) (fun b hb=>?_) (fun b o _ _ hc e _=>kp b o hc e) (fun b o _ _ hc e _=>⟨o.slots,kp b o hc e⟩) (fun b o hc e n=>by rw [aZ (neT b o e)];exact n) (fun b o hc e=>⟨o,kp b o hc e⟩)
  (fun b xs e=>up _ _ e) (fun b o u e=>up _ _ e) (fun b ps e=>⟨#[],by rw [up _ _ e];simp⟩) (fun m hm=>?_) (fun b u e=>?_) I.bare
 ·obtain ⟨_,q2,_,q4,q5,q6⟩:=hf b hb
  exact ⟨q4,q2,q5,q6⟩
 ·obtain ⟨o,es,ep,ho,r⟩:=hm
  exact ⟨o,es,ep,kp _ o (fun z=>(hf _ z).2.1 rfl) ho,r⟩
 ·by_cases hb:b=T
  ·subst hb;rw [bC] at e;cases e;exact new
  ·rw [aZ hb] at e
   refine (I.hok b u e).stay (fun c v hc q=>kp c v (fun z=>?_) q) (fun c q=>up _ _ q) fun c xs q=>up _ _ q
   have:=(hf c z).1
   rcases hc with rfl | hc
   ·rw [this] at e;cases e
   ·rw [this] at hc;cases hc
theorem Inv.turnL {X:Cx} {pins:List (Addr × Obj)} {σ:St} {H:Hp} {s:Shared} {h':Heap} {ch:List Addr} {tk:Nat} (I:Inv X pins σ H s) (kp:∀ b o,b ∉ ch->s.heap.get? b=some o->h'.get? b=some o) (hf:∀ b ∈ ch,gA X pins H b):Inv X pins σ H { s with heap:=h',toks:=tk }:=by
 refine I.step (g':=s.gens) (d':=s.drawn) (ch:=ch) (fun b hb=>?_) (fun b o _ _ hc e _=>kp b o hc e) (fun b o _ _ hc e _=>⟨o.slots,kp b o hc e⟩) (fun b o hc e n=>n) (fun b o hc e=>⟨o,kp b o hc e⟩)
  (fun b xs e=>e) (fun b o u e=>e) (fun b ps e=>⟨#[],by rw [e];simp⟩) (fun m hm=>?_) (fun b u e=>?_) I.bare
 ·obtain ⟨_,q2,_,q4,q5,q6⟩:=hf b hb
  exact ⟨q4,q2,q5,q6⟩
 ·obtain ⟨o,es,ep,ho,r⟩:=hm
  exact ⟨o,es,ep,kp _ o (fun z=>(hf _ z).2.1 rfl) ho,r⟩
 ·refine (I.hok b u e).stay (fun c v hc q=>kp c v (fun z=>?_) q) (fun c q=>q) fun c xs q=>q
  have:=(hf c z).1
  rcases hc with rfl | hc
  ·rw [this] at e;cases e
  ·rw [this] at hc;cases hc
section
variable {X:Cx} {Ex:Value->Prop} {H0:Hp} {a b:Expr} {elts:List Expr} {x1:Nat} {p pos pos':Pos} {ta:TA} {fa:ae->Res (List D)}
end
section
variable {X:Cx} {Ex:Value->Prop} {H0:Hp} {e:Expr} {pos:Pos}
noncomputable def bU (n:Nat) (F:List D->Res D) (fa:ae->Res (List D)):ae->Res D:=fun ρ=>fa ρ >>= fun ds=>if ds.length=n then (match fA F ds with
 | .ok d=>.ok d
 | _=>.bad) else .bad
theorem fY {x:Str} {n k:Nat} {F:List D->Res D} {p:Pos} {es:List Expr} {fa:ae->Res (List D)} (c:Cal X.prog X.w X.K X.mg X.base x n F k) (hr:Room k X.A) (hg:Gl X x) (ha:FA X H0 Ex (e::es) fa) (hn:(e::es).length=n:=by rfl)
    (hdb:(x == ("__debug__" : Str))=false:=by decide) (he:starEach (e::es) X.env=(false,eval e X.env)::starEach es X.env:=by rfl) (hpl:(backTo pos (starEach es X.env)).any (·.1)=false:=by rfl) :
    FE X H0 Ex (.Call (.Name x p) (e::es) [] pos) (bU n F fa):=by
 obtain ⟨f,fd,ps,G,hm,hk,hb⟩:=c.ex
 refine ⟨PE.pre (qU (dvs:=[]) (E:=fun _ _ _=>False) G hr hg hm hk hb .nil xh ha.go hdb he hpl) ?_⟩
 rintro σ H Q ⟨Hs,ρ,ts,S,p⟩
 refine ⟨Hs,ρ,ts,S,(Post.bind p).imp fun ds _ p1 us H1 hl S1=>?_⟩
 split at p1
 ·rename_i hds
  rw [List.append_nil]
  cases ec:fA F ds with
  | bad=>rw [ec] at p1;exact p1.elim
  | exc C=>rw [ec] at p1;exact p1.elim
  | ok d =>
   rw [ec] at p1
   obtain ⟨Hs',es',a1,a2,a3,a4,a5⟩:=pz (Ex:=fun _=>False) (F:=F) (n:=n) hds hl S1 (by rw [ec];exact p1)
   refine ⟨Hs',es',a1,a2,a3,a4,?_⟩
   cases ef:F es' with
   | ok d=>rw [ef] at a5;exact a5
   | exc C=>rw [ef] at a5;exact fun H' sm=>(a5 H' sm).1
   | bad=>rw [ef] at a5;exact a5.elim
 ·exact p1.elim
theorem hu4 {k:Nat} {A:Around} (r:Room k A):A.units + 4 < cLine:=by have:=r.un;omega
end
theorem Ae {P:Program} {w:World} {K:PySem.W.Frag} {mg:Str->Option Value} {base:Heap} {x qual:Str} {C:Addr} {st:Stmt} {N ps:List Str} {k n:Nat} {g:ae->FOut} (hU:∃ f fd,Fun K "__init__" qual st f fd/\mg x=some (.ref C)/\Mk K C f/\Binds K fd ps []) (S:FnScope N ps (aA st)) (hn:ps.length=n + 1)
    (hbody:∀ (f:Addr) (cdv:Value) (A:Around) (outer:List Env) (s:Shared) (H H0:Hp) (E:XK) (Ex:Value->Prop),(∀ C H',Ex C->Same H0 H'->E C none H')->Room k (A.deeper (envOfC qual (aA st) s.heap.objs.size f cdv)) →
     FSs (cxm P w K mg base N qual (aA st) f cdv A outer s H E) H0 Ex (cE st) g):Mak P w K mg base x C n (dM C N.length g) (k + 1):=by
 obtain ⟨f,fd,U,hm,M,hb⟩:=hU
 exact ⟨f,fd,ps,tQ U S hn fun cdv A outer s H H0 E Ex hE hr=>hbody f cdv A outer s H H0 E Ex hE hr,hm,M,hb⟩
def kr (K:PySem.W.Frag):Bool:=K.all fun p=>!(p.2.cls == .type "list")
theorem t7 {K:PySem.W.Frag} (h:kr K=true) {a:Addr} {o:Obj} (e:K.lookup a=some o):o.cls ≠ .type "list" := by
 unfold kr at h
 induction K with
 | nil=>simp at e
 | cons p r ih =>
  obtain ⟨b,q⟩:=p
  rw [List.lookup_cons] at e
  rw [List.all_cons,Bool.and_eq_true] at h
  cases hb:a == b with
  | true =>
   rw [hb] at e
   have e:q=o:=Option.some.inj e
   subst e
   intro z
   have:=h.1
   rw [show (q.cls == Value.type "list")=true by rw [z];simp] at this
   cases this
  | false=>rw [hb] at e;exact ih h.2 e
theorem Af {l:PySem.W.OpenLaw} {n k:Nat} {q:Program} {loose:List Str} {XP:(Str->Option Value)->Heap->Prop} {YP:World->Heap->Prop} {d:DefRec} {K:Params->PySem.W.Frag} {x:Str}
    (hn:l.most=some n) (hn2:n <= sizeLine) (hdf:d.params.defaults=[]) (hr:Room k callerA) (hY:∀ (w:World) (h:Heap),YP w h->(K w.params).In h)
    (F:∀ (w:World) (mg:Str->Option Value) (fa:Addr) (h:Heap),(K w.params).In h->h.Ns mainGlobals mg->mg d.name=some (.ref fa) →
     ∃ Fl:List D->Res D,(∀ ns:List Int,ns.length <= n->Fl [.scr ns]=.ok (.bl true))/\kr (K w.params)=true/\∃ fd:FuncData,(∀ (s:Shared) (u:Value),BindsTo s fd ⟨[u],[]⟩ [(x,u)]) ∧
      ∀ base:Heap,(K w.params).In base->base.Ns mainGlobals mg->FnOk l.prog w (K w.params) mg base (CXm l.prog w) k fa fd [x] (spF 1 Fl)) :
    PySem.W.WalkO q loose XP YP l.row.toRowW d [] (fun f vs=>PySem.call f vs):=by
 refine Att.attach_call hn hdf fun w s₀ s₁ mg mb fa o pm cd doc a vs ns G Y ho hd hcd hmg hobj hints hlen hg=>?_
 have KX:=hY w _ Y
 obtain ⟨Fl,hFl,hnl,fd,hb,hF⟩:=F w mg fa _ KX G.T.g hmg
 refine vo KX G.T.g G.T.b G.T.builtins G.T.nolimit hg hobj hints (Nat.le_trans hlen hn2) hr hF hb (fun H hO hS=>?_) fun H e s' h=>?_
 ·have hH:∃ o,H a=some (.frz o (.lst (ns.map V.int))):=by
     rcases hS with (z | z) | ⟨o,its,m,z,zc,_⟩
     ·rcases hO a with y | ⟨o,xs,y⟩
      ·rw [y] at z;cases z
      ·rw [y] at z;cases z
     ·exact z
     ·exact absurd zc (t7 hnl z)
  obtain ⟨o,hH⟩:=hH
  refine ⟨H,[.scr ns],rfl,Same.refl _,.cons (.scr hH) .nil,fun d m=>by simp at m;subst m;rfl,?_⟩
  rw [hFl ns hlen]
  exact fun v H' S'=>SR.isBl S'
 ·obtain ⟨_,_,_,_,_,_,_,_,_,z⟩:=h
  exact z
theorem bO {K:PySem.W.Frag} {h:Heap} {mg:Str->Option Value} {x:Str} {st:Stmt} {ps:List Str} {f:Addr} {oc:Value} {od an:Option Addr} {osl:Array (Option Value)} {kV doc pm cdv ct:Value} (X:K.In h) (G:h.Ns mainGlobals mg)
    (a:PySem.W.nsIn K mainGlobals x=some (some (.ref f))) (l:K.lookup f=some ⟨oc,od,.func (PySem.W.fnOf x x (eM st) (cE st) (aA st) .none kV doc pm an cdv ct),osl⟩) (c:PySem.W.codeIn K cdv x=true) (kp:PySem.W.keepIn K (.ref f)=true)
    (hb:∀ (kV doc pm:Value) (an:Option Addr) (cdv ct:Value) (us:List Value),us.length=ps.length->bindArgs (PySem.W.fnOf x x (eM st) (cE st) (aA st) .none kV doc pm an cdv ct) ⟨us,[]⟩=pure (ps.zip us)):Df K mg x st ps:=
 ⟨⟨f,_,mi l c kp,PySem.W.mg_of X G a,(mi (st:=st) l c kp).binds hb⟩⟩
theorem lZ {K:PySem.W.Frag} {h:Heap} {mg:Str->Option Value} {x:Str} {C:Addr} (X:K.In h) (G:h.Ns mainGlobals mg) (a:PySem.W.nsIn K mainGlobals x=some (some (.ref C))) (e:PySem.W.excIn K C k9 "ValueError.__new__" = true):XCls K mg x C:=xj (PySem.W.mg_of X G a) e
theorem yY {P:Program} {w:World} {K:PySem.W.Frag} {mg:Str->Option Value} {base:Heap} {N:List Str} {x:Str} {st:Stmt} {ps:List Str} {k:Nat} {g:ae->FOut} {f:Addr} {fd:FuncData} (U:Fun K x x st f fd) (S:FnScope N ps (aA st))
    (hbody:∀ (f:Addr) (cdv:Value) (A:Around) (outer:List Env) (s:Shared) (H:Hp) (E:XK) (Ex:Value->Prop),(∀ C H',Ex C->Same H H'->E C none H')->Room k (A.deeper (envOfC x (aA st) s.heap.objs.size f cdv)) →
     FSs (cxm P w K mg base N x (aA st) f cdv A outer s H E) H Ex (cE st) g):FnOk P w K mg base (CXm P w) (k + 1) f fd ps (spF ps.length (aN N.length g)):=
 qY U S fun cdv A outer s H E ds hr hl hx=>⟨g,hbody f cdv A outer s H E _ (fun C H' e sm=>hx C e H' sm) hr,rfl⟩
theorem kt7 {K:PySem.W.Frag} {T:String} (h1:PySem.W.kitOne K (.type "NoneType") (.type T)=some (gS "NoneType" T)) (h2:PySem.W.kitOne K (.type "bool") (.type T)=some (gS "bool" T)) (h3:PySem.W.kitOne K (.type "int") (.type T)=some (gS "int" T)) (h4:PySem.W.kitOne K (.type "str") (.type T)=some (gS "str" T))
    (h5:PySem.W.kitOne K (.type "list") (.type T)=some (gS "list" T)) (h6:PySem.W.kitOne K (.type "tuple") (.type T)=some (gS "tuple" T)) (h7:PySem.W.kitOne K (.type "dict") (.type T)=some (gS "dict" T)):KT K T:=fun t ht=>by
 simp only [List.mem_cons,List.not_mem_nil,or_false] at ht
 rcases ht with rfl | rfl | rfl | rfl | rfl | rfl | rfl <;> assumption
noncomputable def gr:List D->Option (List Str)
 | []=>some []
 | .str i::r=>(gr r).map (i::·)
 | _=>none
noncomputable def jM:List Str->Bool
 | []=>true
 | [_]=>true
 | a::b::r=>PySem.Spec.ltCps a.cps.toList b.cps.toList && jM (b::r)
noncomputable def gF:List D->Res D
 | [d]=>match d.its with
  | some ys=>match gr ys with
   | some ss=>if d.isL=true/\jM ss=true/\ss.length <= 100000 then .ok (.lst .o (ss.map D.str)) else .bad
   | none=>.bad
  | none=>.bad
 | _=>.bad
noncomputable def hJ (ys zs:List D):List D:=(ys.zip zs).map fun p=>.tup [p.1,p.2]
noncomputable def my (fa:ae->Res (List D)):ae->Res (List D):=fun ρ=>fa ρ >>= fun es=>match es with
 | [d,e]=>if d.tag=.b \/ d.isL=false \/ e.tag=.b \/ e.isL=false then .bad else match d.its,e.its with
  | some ys,some zs=>.ok (hJ ys zs)
  | _,_=>.bad
 | _=>.bad
noncomputable def dNe:D->D->Res D:=fun x y=>if pH x=true/\pH y=true then (match a0 4 x y with
 | some b=>.ok (.bl (!b))
 | none=>.bad) else eR true x y
noncomputable abbrev yh2 (h:Heap) (l l':Addr):Heap:=(zh1 h l).push { cls:=.type "list_iterator", data:=.fields #[.ref l',.int 0 0] }
noncomputable abbrev yh3 (h:Heap) (l l':Addr):Heap:=(yh2 h l l').push { cls:=.type "tuple", data:=.seq #[.ref h.objs.size,.ref (zh1 h l).objs.size] }
noncomputable abbrev yh4 (h:Heap) (l l':Addr):Heap:=(yh3 h l l').push { cls:=.type "tuple", data:=.seq #[.none,.none] }
noncomputable abbrev yh5 (h:Heap) (l l':Addr):Heap:=(yh4 h l l').push { cls:=.type "zip", data:=.fields #[.none,.bool false,.bool false,.ref (yh2 h l l').objs.size,.ref (yh3 h l l').objs.size] }
theorem t8 (l l':Addr) (xs ys:Array Value) :
    Meets (Builtin.«zip.__new__» ⟨[.type "zip", .ref l,.ref l'],[]⟩) (fun _ R s=>(s.heap.IsList l xs/\s.heap.IsList l' ys)/\R (.ok (.ret (.ref (yh4 s.heap l l').objs.size))) { s with heap:=yh5 s.heap l l' }):=
 .of_wp fun prog w A R s h=>by
  obtain ⟨hp,g,d,tk,os⟩:=s
  obtain ⟨⟨hl,hl'⟩,h⟩:=h
  have sb:=sub_zip
  have hL:Heap.IsList (Shared.heap ⟨hp,g,d,tk,os⟩) l xs:=hl
  have hL':Heap.IsList (Shared.heap ⟨zh1 hp l,g,d,tk,os⟩) l' ys:=by obtain ⟨o,e,r⟩:=hl';exact ⟨o,Heap.get?_push_of_some _ e,r⟩
  wp_walk using wpAny_pyIter_list hL,wpAny_pyIter_list hL'
  exact ⟨_,rfl,h⟩
theorem ua {prog:Program} {w:World} {A:Around} {E:Value->Shared->Prop} {s:Shared} {l l':Addr} {xs ys:Array Value} {Q:Value->Shared->Prop} (hl:s.heap.IsList l xs) (hl':s.heap.IsList l' ys)
    (h:∀ h',IsZip h' (s.heap.objs.size + 4) (s.heap.objs.size + 2) (s.heap.objs.size + 3) .none->IsPair h' (s.heap.objs.size + 2) (.ref s.heap.objs.size) (.ref (s.heap.objs.size + 1))->IsPair h' (s.heap.objs.size + 3) .none .none →
     h'.IsListIter s.heap.objs.size l 0->h'.IsListIter (s.heap.objs.size + 1) l' 0->(∀ c o,s.heap.get? c=some o->h'.get? c=some o)->Q (.ref (s.heap.objs.size + 4)) { s with heap:=h' }) :
    wpAny (model prog w) A (call (.type "zip") [.ref l,.ref l']) Q E s:=by
 refine callType_new F.called_zip (by decide) (F.typeCall_zip_2 _ _) (F.newCall_zip_2 _ _) (fun obj=>F.args_object_init_3 obj _ _) F.entry_zip_new (t8 l l' xs ys) ⟨⟨hl,hl'⟩,?_⟩
 have y1:(zh1 s.heap l).objs.size=s.heap.objs.size + 1:=Heap.size_push ..
 have y2:(yh2 s.heap l l').objs.size=s.heap.objs.size + 2:=by rw [Heap.size_push,y1]
 have y3:(yh3 s.heap l l').objs.size=s.heap.objs.size + 3:=by rw [Heap.size_push,y2]
 have y4:(yh4 s.heap l l').objs.size=s.heap.objs.size + 4:=by rw [Heap.size_push,y3]
 have u5:(yh5 s.heap l l').get? (yh4 s.heap l l').objs.size=some _:=Heap.get?_push_size _ rfl
 have u4:(yh5 s.heap l l').get? (yh3 s.heap l l').objs.size=some _:=Heap.get?_push_of_some _ (Heap.get?_push_size _ rfl)
 have u3:(yh5 s.heap l l').get? (yh2 s.heap l l').objs.size=some _:=Heap.get?_push_of_some _ (Heap.get?_push_of_some _ (Heap.get?_push_size _ rfl))
 have u2:(yh5 s.heap l l').get? (zh1 s.heap l).objs.size=some _:=Heap.get?_push_of_some _ (Heap.get?_push_of_some _ (Heap.get?_push_of_some _ (Heap.get?_push_size _ rfl)))
 have u1:(yh5 s.heap l l').get? s.heap.objs.size=some _:=Heap.get?_push_of_some _ (Heap.get?_push_of_some _ (Heap.get?_push_of_some _ (Heap.get?_push_of_some _ (Heap.get?_push_size _ rfl))))
 rw [y2,y3,y4] at u5
 rw [y1,y2] at u3
 rw [y3] at u4
 rw [y1] at u2
 show _/\_
 rw [y4]
 exact ⟨⟨_,u5,rfl⟩,h _ u5 u3 u4 ⟨_,u1,rfl,rfl⟩ ⟨_,u2,rfl,rfl⟩ fun c o q=>Heap.get?_push_of_some _ (Heap.get?_push_of_some _ (Heap.get?_push_of_some _ (Heap.get?_push_of_some _ (Heap.get?_push_of_some _ q))))⟩
noncomputable def Ity (K:PySem.W.Frag) (a b:Addr):It:=
 ⟨fun i H=>∃ xs ys v u,SqL K H a xs/\SqL K H b ys/\xs[i]?=some v/\ys[i]?=some u,
  fun i H y H'=>∃ p v u,H p=none/\H'=upd H p (.tup [v,u])/\y=.ref p/\(∀ xs,SqL K H a xs->xs[i]?=some v)/\(∀ ys,SqL K H b ys->ys[i]?=some u),
  fun i H=>∃ xs ys,SqL K H a xs/\SqL K H b ys/\i=min xs.length ys.length⟩
noncomputable def tny (zp tI tO j1 j2 a b:Addr) (i:Nat) (h:Heap):Prop:=
 IsZip h zp tI tO .none/\IsPair h tI (.ref j1) (.ref j2)/\(∃ u v,IsPair h tO u v)/\h.IsListIter j1 a i/\h.IsListIter j2 b i
theorem CM {zp tI tO j1 j2 a b:Addr} {i:Nat} {h:Heap} {u v:Value} (h1:IsZip h zp tI tO .none) (h2:IsPair h tI (.ref j1) (.ref j2)) (h3:IsPair h tO u v) (h4:h.IsListIter j1 a i) (h5:h.IsListIter j2 b i) :
    ∀ b ∈ [zp,tI,tO,j1,j2],∃ o,h.get? b=some o/\o.cls ≠ .type "list" := fun b hb=>by
 obtain ⟨o4,e4,c4,_⟩:=h4
 obtain ⟨o5,e5,c5,_⟩:=h5
 simp only [List.mem_cons,List.not_mem_nil,or_false] at hb
 rcases hb with rfl | rfl | rfl | rfl | rfl
 ·exact ⟨_,h1,(show Value.type "zip" ≠ Value.type "list" by decide)⟩
 ·exact ⟨_,h2,(show Value.type "tuple" ≠ Value.type "list" by decide)⟩
 ·exact ⟨_,h3,(show Value.type "tuple" ≠ Value.type "list" by decide)⟩
 ·exact ⟨_,e4,by rw [c4];decide⟩
 ·exact ⟨_,e5,by rw [c5];decide⟩
theorem ub {zp tI tO j1 j2 a b:Addr} {i:Nat} {h:Heap} {u v:Value} {its its':Array Value} (nd:[zp,tI,tO,j1,j2].Nodup) (hl:h.IsList a its) (hl':h.IsList b its') (h1:IsZip h zp tI tO .none) (h3:IsPair h tO u v) (h4:h.IsListIter j1 a i) (h5:h.IsListIter j2 b i) :
    ZAp zp tI tO j1 j2 [j1,a] [j2,b]/\a ≠ j1/\b ≠ j2:=by
 obtain ⟨o4,e4,c4,_⟩:=h4
 obtain ⟨o5,e5,c5,_⟩:=h5
 have key:∀ {c:Addr} {is:Array Value},h.IsList c is->c ≠ zp/\c ≠ tO/\c ≠ j1/\c ≠ j2:=fun {c is} hc=>by
  obtain ⟨oa,ea,ca,_⟩:=hc
  refine ⟨fun z=>?_,fun z=>?_,fun z=>?_,fun z=>?_⟩
  ·rw [z,h1] at ea;cases ea;exact (show Value.type "zip" ≠ Value.type "list" by decide) ca
  ·rw [z,h3] at ea;cases ea;exact (show Value.type "tuple" ≠ Value.type "list" by decide) ca
  ·rw [z,e4] at ea;cases ea;rw [c4] at ca;exact absurd ca (by decide)
  ·rw [z,e5] at ea;cases ea;rw [c5] at ca;exact absurd ca (by decide)
 obtain ⟨n1,n2,n3,n4⟩:=key hl
 obtain ⟨k1,k2,k3,k4⟩:=key hl'
 simp only [List.nodup_cons,List.mem_cons,List.not_mem_nil,or_false,not_or,not_false_eq_true,List.nodup_nil,and_true] at nd
 obtain ⟨⟨d1,d2,d3,d4⟩,⟨d5,d6,d7⟩,⟨d8,d9⟩,d10⟩:=nd
 refine ⟨⟨Ne.symm d2,Ne.symm d3,Ne.symm d4,d8,d9,d10,fun b hb=>?_,fun b hb=>?_,Ne.symm d1,d5,d6,d7⟩,n3,k4⟩
 ·simp only [List.mem_cons,List.not_mem_nil,or_false] at hb
  rcases hb with rfl | rfl
  ·exact ⟨Ne.symm d3,Ne.symm d8,d10⟩
  ·exact ⟨n1,n2,n4⟩
 ·simp only [List.mem_cons,List.not_mem_nil,or_false] at hb
  rcases hb with rfl | rfl
  ·exact ⟨Ne.symm d4,Ne.symm d9,Ne.symm d10⟩
  ·exact ⟨k1,k2,k3⟩
theorem uc {P:Program} {w:World} {K:PySem.W.Frag} {elts:List Expr} {x1} {pos:Pos} {a b zp tI tO j1 j2:Addr} (nd:[zp,tI,tO,j1,j2].Nodup):Turn P w K (.Tuple elts x1 pos) (Ity K a b) [zp,tI,tO,j1,j2] zp (tny zp tI tO j1 j2 a b) where
 mem:=List.mem_cons_self
 obj:=fun i h st b hb=>by
  obtain ⟨h1,h2,⟨u,v,h3⟩,⟨o4,h4,_,d4⟩,⟨o5,h5,_,d5⟩⟩:=st
  simp only [List.mem_cons,List.not_mem_nil,or_false] at hb
  rcases hb with rfl | rfl | rfl | rfl | rfl
  ·exact ⟨_,h1,fun v z=>nomatch z⟩
  ·exact ⟨_,h2,fun v z=>nomatch z⟩
  ·exact ⟨_,h3,fun v z=>nomatch z⟩
  ·exact ⟨_,h4,fun v z=>by rw [d4] at z;cases z⟩
  ·exact ⟨_,h5,fun v z=>by rw [d5] at z;cases z⟩
 keep:=fun i h h' st k=>by
  obtain ⟨h1,h2,⟨u,v,h3⟩,⟨o4,h4,r4⟩,⟨o5,h5,r5⟩⟩:=st
  exact ⟨k zp (by simp) _ h1,k tI (by simp) _ h2,⟨u,v,k tO (by simp) _ h3⟩,⟨o4,k j1 (by simp) _ h4,r4⟩,⟨o5,k j2 (by simp) _ h5,r5⟩⟩
 item:=by
  intro X e1 e2 e3 hc i pins s σ H E I hf st hg
  subst e1 e2 e3
  obtain ⟨xs,ys,v,v',hq,hq',hv,hv'⟩:=hg
  obtain ⟨h1,h2,⟨u0,v0,h3⟩,h4,h5⟩:=st
  obtain ⟨its,rv,pl,hz⟩:=I.list hq
  obtain ⟨its',rv',pl',hz'⟩:=I.list hq'
  obtain ⟨u,hu,ru⟩:=rv.get hv
  obtain ⟨u',hu',ru'⟩:=rv'.get hv'
  have ap:=ub nd pl.isList pl'.isList h1 h3 h4 h5
  have l1:i < its.toArray.size:=by
   rw [List.size_toArray];exact (List.getElem?_eq_some_iff.mp hu).1
  have l2:i < its'.toArray.size:=by
   rw [List.size_toArray];exact (List.getElem?_eq_some_iff.mp hu').1
  refine tZ (I.ok.hd hc) (fun A' hh=>Draws.list hh j1 a ap.2.1 its.toArray) (fun A' hh=>Draws.list hh j2 b ap.2.2 its'.toArray) ap.1 h1 h2 h3 ⟨h4,pl.isList⟩ ⟨h5,pl'.isList⟩ l1 l2 fun vx vy g tk p1 p2 hz' ho' hs1 hs2 pr kp=>⟨_,rfl,?_⟩
  have hvx:vx=u:=by
   have p1:its.toArray[i]?=some vx:=p1
   rw [List.getElem?_toArray,hu] at p1
   exact (Option.some.inj p1).symm
  have hvy:vy=u':=by
   have p2:its'.toArray[i]?=some vy:=p2
   rw [List.getElem?_toArray,hu'] at p2
   exact (Option.some.inj p2).symm
  subst hvx
  subst hvy
  refine wpAny_letOwnedTupleGo_zip (s:={ s with heap:=g,toks:=tk }) hz' fun g2 hz2 sb=>?_
  have lt:∀ {b o},s.heap.get? b=some o->b ≠ s.heap.objs.size:=fun e=>Nat.ne_of_lt (Heap.lt_size e)
  have kp2:∀ b o,b ∉ [zp,tO,j1,j2]->s.heap.get? b=some o->g2.get? b=some o:=fun b o hb e=>by
   simp only [List.mem_cons,List.not_mem_nil,or_false,not_or] at hb
   exact sb.extBut _ _ hb.1 (kp b o hb.1 hb.2.1 hb.2.2.1 hb.2.2.2 e)
  have sub:∀ b ∈ [zp,tO,j1,j2],b ∈ [zp,tI,tO,j1,j2]:=fun b hb=>by
   simp only [List.mem_cons,List.not_mem_nil,or_false] at hb ⊢
   rcases hb with h | h | h | h <;> simp [h]
  have prT:IsPair g2 s.heap.objs.size vx vy:=sb.extBut _ _ (Ne.symm (lt h1)) pr
  have J:Inv X pins σ (upd H s.heap.objs.size (.tup [v,v'])) { s with heap:=g2,toks:=tk }:=Inv.turnLay (us:=[v,v']) I kp2 (fun b hb=>hf b (sub b hb)) (Nat.le_refl _) ⟨show 2 <= sizeLine by decide,[vx,vy],.cons ru (.cons ru' .nil),⟨_,prT,rfl,_,rfl⟩⟩
  refine ⟨.ref s.heap.objs.size,upd H s.heap.objs.size (.tup [v,v']),J,rfl,
   ⟨_,v,v',I.hok.fresh (Nat.le_refl _),rfl,rfl,fun ys hy=>by rw [I.list_inj hy hq];exact hv,fun ys hy=>by rw [I.list_inj hy hq'];exact hv'⟩,⟨hz2,kp2 tI _ ?_ h2,⟨_,_,sb.extBut _ _ ap.1.a1 ho'⟩,hs1.1.extBut sb.extBut ap.1.a2,hs2.1.extBut sb.extBut ap.1.a3⟩,fun b hb=>?_⟩
  ·simp only [List.mem_cons,List.not_mem_nil,or_false,not_or]
   exact ⟨ap.1.c1,ap.1.c2,ap.1.c3,ap.1.c4⟩
  ·obtain ⟨o,ho,_⟩:=CM h1 h2 h3 h4 h5 b hb
   rw [aZ (lt ho)]
   exact (hf b hb).1
 done:=by
  intro X e1 e2 e3 hc i pins s σ H E I hf st hg
  subst e1 e2 e3
  obtain ⟨xs,ys,hq,hq',hi⟩:=hg
  obtain ⟨h1,h2,⟨u0,v0,h3⟩,h4,h5⟩:=st
  obtain ⟨its,rv,pl,hz⟩:=I.list hq
  obtain ⟨its',rv',pl',hz'⟩:=I.list hq'
  have hlen:=rv.length
  have hlen':=rv'.length
  have ap:=ub nd pl.isList pl'.isList h1 h3 h4 h5
  have sub:∀ b ∈ [zp,tO,j1,j2],b ∈ [zp,tI,tO,j1,j2]:=fun b hb=>by
   simp only [List.mem_cons,List.not_mem_nil,or_false] at hb ⊢
   rcases hb with h | h | h | h <;> simp [h]
  refine t0 (I.ok.hd hc) (fun A' hh=>Draws.list hh j1 a ap.2.1 its.toArray) (fun A' hh=>Draws.list hh j2 b ap.2.2 its'.toArray) ap.1 h1 h2 h3 ⟨h4,pl.isList⟩ ⟨h5,pl'.isList⟩ ?_ fun g tk kp=>⟨rfl,Inv.turnL I (fun b o hb e=>?_) fun b hb=>hf b (sub b hb)⟩
  ·rw [List.size_toArray,<- hlen,List.size_toArray,<- hlen',hi]
   omega
  ·simp only [List.mem_cons,List.not_mem_nil,or_false,not_or] at hb
   exact kp b o hb.1 hb.2.1 hb.2.2.1 hb.2.2.2 e
 self:=fun _ _ _ _ _ st h=>wpAny_pyIter_zip st.1 h
section
variable {X:Cx} {Ex:Value->Prop} {H0:Hp} {a b:Expr} {elts:List Expr} {x1:Nat} {p pos pos':Pos} {ta:TA} {fa:ae->Res (List D)}
noncomputable def Ag (K:PySem.W.Frag) (ta:TA):TI:=fun σ H R=>ta σ H fun vs H1=>∃ l l',vs=[.ref l,.ref l']/\(∃ xs,SqL K H1 l xs)/\(∃ xs,SqL K H1 l' xs)/\R (Ity K l l') H1
theorem xn (hg:Gl X "zip") (hm:X.mg "zip" = none) (ha:PA X [a,b] ta) (h1:starEach [a,b] X.env=(false,eval a X.env)::starEach [b] X.env) (h2:(backTo pos' (starEach [b] X.env)).any (·.1)=false) :
    PI X (.Tuple elts x1 pos) (.Call (.Name "zip" p) [a,b] [] pos') (Ag X.K ta):=by
 intro pins s σ H R I h
 have hv:bootBuiltins "zip" = some (.type "zip"):=by decide +kernel
 refine wpAny_Call_Name_kw (iD I hg hm hv ?_ (by decide) (by decide))
 refine PyProof.Rows.callWith_type1 (thn (ha pos' pins s σ H _ I h) fun us s1 ⟨vs,H1,I1,r1,q1⟩=>?_) h1 h2
 obtain ⟨l,l',rfl,⟨xs,hq⟩,⟨ys,hq'⟩,q⟩:=q1
 cases r1 with
 | cons ra r2 =>
  cases r2 with
  | cons rb r3 =>
   cases r3
   cases ra
   cases rb
   obtain ⟨its,rv,pl,_⟩:=I1.list hq
   obtain ⟨its',rv',pl',_⟩:=I1.list hq'
   refine ua pl.isList pl'.isList fun g z1 z2 z3 z4 z5 kp=>wpAny_pyIter_zip z1 ?_
   refine ⟨s1.heap.objs.size + 4,[s1.heap.objs.size + 4,s1.heap.objs.size + 2,s1.heap.objs.size + 3,s1.heap.objs.size,s1.heap.objs.size + 1],_,_,H1,rfl,I1.kept (t':=s1.toks) kp,uc ?_,⟨z1,z2,⟨_,_,z3⟩,z4,z5⟩,fun c hc=>?_,q⟩
   ·simp
   ·have:s1.heap.objs.size <= c:=by
       simp only [List.mem_cons,List.not_mem_nil,or_false] at hc
       rcases hc with rfl | rfl | rfl | rfl | rfl <;> first | exact Nat.le_refl _ | exact Nat.le_add_right _ _
    exact I1.fpOk this (I1.hok.fresh this)
theorem yZ {K:PySem.W.Frag} {B:Hp} {l l':Addr} {us us':List V} {ds ds':List D} (h:B l=some (.lst us)) (R:Reps B us ds) (h':B l'=some (.lst us')) (R':Reps B us' ds'):gD (Ity K l l') B (hJ ds ds'):=by
 intro H s i
 have hl:=R.length
 have hl':=R'.length
 refine ⟨fun d hd=>?_,fun hi=>⟨us,us',SqL.of (s _ _ h),SqL.of (s _ _ h'),?_⟩⟩
 ·simp only [hJ,List.getElem?_map] at hd
  cases e:(ds.zip ds')[i]? with
  | none=>rw [e] at hd;cases hd
  | some q =>
   rw [e] at hd
   cases hd
   obtain ⟨q1,q2⟩:=List.getElem?_zip_eq_some.mp e
   obtain ⟨u,hu,ru⟩:=R.get q1
   obtain ⟨u',hu',ru'⟩:=R'.get q2
   refine ⟨⟨us,us',u,u',SqL.of (s _ _ h),SqL.of (s _ _ h'),hu,hu'⟩,fun y H' ⟨z,v,c',z1,z2,z3,z4,z5⟩=>⟨rfl,.inr ⟨z,_,_,z1,z2,z3,rfl,?_⟩⟩⟩
   have:=z4 us (SqL.of (s _ _ h))
   rw [hu] at this
   cases this
   have:=z5 us' (SqL.of (s _ _ h'))
   rw [hu'] at this
   cases this
   exact .cons ru (.cons ru' .nil)
 ·rw [hi,hJ,List.length_map,List.length_zip,<- hl,<- hl']
theorem xo (hg:Gl X "zip") (hm:X.mg "zip" = none) (ha:FA X H0 Ex [a,b] fa) (h1:starEach [a,b] X.env=(false,eval a X.env)::starEach [b] X.env:=by rfl) (h2:(backTo pos' (starEach [b] X.env)).any (·.1)=false:=by rfl) :
    FI X H0 Ex (.Tuple elts x1 pos) (.Call (.Name "zip" p) [a,b] [] pos') (my fa):=by
 refine ⟨PI.pre (xn hg hm ha.go h1 h2) ?_⟩
 rintro σ H R ⟨Hs,ρ,ts,S,pp⟩
 refine ⟨Hs,ρ,ts,S,(Post.bind pp).imp fun es _ p1 us H1 hl S1=>?_⟩
 split at p1
 ·rename_i d d' _
  split at p1
  ·exact p1.elim
  ·rename_i hc
   have tb:d.tag ≠ .b:=fun z=>hc (.inl z)
   have il:d.isL=true:=by cases q:d.isL with | true=>rfl | false=>exact absurd (.inr (.inl q)) hc
   have tb':d'.tag ≠ .b:=fun z=>hc (.inr (.inr (.inl z)))
   have il':d'.isL=true:=by cases q:d'.isL with | true=>rfl | false=>exact absurd (.inr (.inr (.inr q))) hc
   obtain ⟨u,v,rfl⟩:=mw hl rfl
   have S2:SR Hs H0 H1 (some v::some u::(tvs ts ++ σ)) (some d'::some d::(tds ts ++ ρ)):=SX.held hl S1
   split at p1
   ·rename_i ys zs e e'
    obtain ⟨Hf,fp,O,F⟩:=S2
    obtain ⟨l',vs',rfl,Hg,fq,O',F',_,hl',R'⟩:=O.itemsC F e' tb'
    obtain ⟨l,vs,rfl,Hg2,fq2,O2,F2,sm,hl2,R2⟩:=O'.itemsC F' e tb
    rw [il'] at hl'
    rw [il] at hl2
    exact ⟨l,l',rfl,⟨vs,SqL.of (F2.fh _ _ hl2)⟩,⟨vs',SqL.of (F2.fh _ _ (sm _ _ hl'))⟩,p1 _ H1 Hg2 fq2 (yZ hl2 R2 (sm _ _ hl') (R'.mono sm)) O2 F2⟩
   ·exact p1.elim
 ·exact p1.elim
end
section
variable {prog:Program} {w:World} {A:Around} {E:Value->Shared->Prop} {s:Shared} {a₀:Array Keyed} {κ:KeyKind}
theorem ud {st:SortSt} {n:Nat} {Q:Option Nat->SortSt->Prop} (hO:κ.OneLt) (h0:KeysOf κ a₀) (hn:n <= a₀.size) (h1:1 <= n) (hB:SBase a₀ st) (hs:SortedToK κ (arrOf st) n) (h:Q (some n) st) :
    wpS (model prog w) A E s (countRun' 0 n) Q st:=by
 rw [countRun0_eq]
 refine wpS_bind (wpS_ascLoopK hO h0 hn (Nat.le_refl 1) h1 hB (fun i j hij hj=>hs i j hij (by omega)) fun k hk1 hk2 _ hor=>?_)
 have hk:k=n:=by
  rcases hor with e | hlt
  ·exact e
  ·by_cases hkn:k=n
   ·exact hkn
   ·have a1:=hs (k - 1) k (by omega) (by omega)
    exact absurd hlt (by
     have a1:κ.blt (KK κ (arrOf st) k) (KK κ (arrOf st) (k - 1))=false:=a1
     intro hlt
     have hlt:κ.blt (KK κ (arrOf st) k) (KK κ (arrOf st) (k - 1))=true:=hlt
     rw [a1] at hlt;cases hlt)
 subst hk
 dsimp only
 rw [if_pos (by simp)]
 exact wpS_pure h
theorem q8:∀ (f n r:Nat),r <= 1->minRun' f n r <= n + r
 | 0,n,r,_=>Nat.le_refl _
 | f + 1,n,r,hr=>by
  rw [minRun'_succ]
  split
  ·exact Nat.le_refl _
  ·have:=q8 f (n / 2) (max r (n % 2)) (by omega)
   omega
theorem ue {st:SortSt} {Q:Unit->SortSt->Prop} (hO:κ.OneLt) (h0:KeysOf κ a₀) (hB:SBase a₀ st) (h2:2 <= a₀.size) (hA:arrOf st=a₀) (hs:SortedToK κ a₀ a₀.size)
    (h:∀ st',arrOf st'=a₀->failedOf st'=none->Q () st'):wpS (model prog w) A E s sortRuns' Q st:=by
 rw [sortRuns'_eq]
 refine wpS_bind (wpS_get ?_)
 dsimp only
 have hmr:minRun' a₀.size a₀.size 0 <= a₀.size:=q8 _ _ _ (by omega)
 simp only [hB.size]
 refine wpS_bind (wpS_mono (wpS_forRange
  (I:=fun x c st'=>(x=0/\c=(none,0)/\st'=st) \/ (1 <= x/\c=(none,a₀.size)/\arrOf st'=a₀/\failedOf st'=none/\pendingOf st'=#[(0,a₀.size,0)]))
  (Q:=fun c st'=>c=(none,a₀.size)/\arrOf st'=a₀/\failedOf st'=none/\pendingOf st'=#[(0,a₀.size,0)]) ?step ?fin (.inl ⟨rfl,rfl,rfl⟩)) ?post)
 case fin =>
  rintro c st' (⟨hx,_,_⟩ | ⟨_,hc,hD⟩)
  ·omega
  ·exact ⟨hc,hD⟩
 case step =>
  rintro x c st' _ hx (⟨rfl,rfl,rfl⟩ | ⟨hx1,rfl,hD⟩)
  ·dsimp only
   rw [if_neg (by omega)]
   simp only [Nat.sub_zero,Nat.zero_add]
   refine wpS_bind (ud hO h0 (Nat.le_refl _) (by omega) hB (by rw [hA];exact hs) ?_)
   dsimp only
   rw [if_neg (by omega)]
   refine wpS_bind (wpS_get ?_)
   have hb:(pendingOf st').back?=none:=by rw [hB.pend];rfl
   rw [hb]
   dsimp only
   exact wpS_bind (wpS_modify (wpS_pure (.inr ⟨by omega,rfl,hA,hB.failed,by show (pendingOf st').push _=_;rw [hB.pend];rfl⟩)))
  ·dsimp only
   rw [if_pos (Nat.le_refl _)]
   exact wpS_pure ⟨rfl,hD⟩
 case post =>
  rintro c st' ⟨rfl,hD⟩
  dsimp only
  refine wpS_bind (wpS_mono (wpS_forRange (I:=fun _ c st''=>st''=st'/\c=(none,())) (Q:=fun c st''=>st''=st'/\c=(none,())) ?_ (fun _ _ hh=>hh) ⟨rfl,rfl⟩) ?_)
  ·rintro x c st'' _ _ ⟨rfl,rfl⟩
   refine wpS_bind (wpS_get ?_)
   rw [if_pos (by rw [hD.2.2];exact Nat.le_refl 1)]
   exact wpS_pure ⟨rfl,rfl⟩
  ·rintro c st'' ⟨rfl,rfl⟩
   exact wpS_pure (h _ hD.1 hD.2.1)
theorem uf (hO:κ.OneLt) {a:Addr} {vs:List Value} {n:Nat} {P:Fin->Shared->Prop} (ho:s.heap.get? a=some (seqObj "list" vs.toArray n))
    (h0:KeysOf κ (pairsOf vs)) (hkk:∀ v₁ v₂ rest,vs=v₁::v₂::rest->keyKind' (v₁::v₂::rest).toArray=pure oneType') (hz:vs.length <= sizeLine) (hs:SortedToK κ (pairsOf vs) (pairsOf vs).size)
    (h:P (.done (.ret .none)) { s with heap:=sortedHeap s.heap a vs ((pairsOf vs).map (·.2)) }) :
    wpAny (model prog w) A (Builtin.«list.sort» ⟨[.ref a],[]⟩) P E s:=by
 rw [list_sort_plain]
 have ha:a < s.heap.objs.size:=Heap.lt_size ho
 refine wpAny_bind (listItems_at ho rfl (wpAny_bind (listUpdate_at ho rfl ?_)))
 obtain ⟨e1,ho1⟩:∃ e1,(s.heap.update a (Obj.mapSeq fun _=>#[])).get? a=some (seqObj "list" #[] e1):=⟨_,get?_update_seq ho (fun _=>#[])⟩
 refine wpAny_bind (seqEpoch_at ho1 rfl (wpAny_bind (wpAny_newTuple (wpAny_bind (wpAny_newList (wpAny_holding ?_))))))
 have ho6:(((s.heap.update a (Obj.mapSeq fun _=>#[])).push (seqObj "tuple" vs.toArray 0)).push (seqObj "list" #[] 0)).get? a=some (seqObj "list" #[] e1):=by
  rw [Heap.get?_push_ne _ _ _ (by rw [size_push',Heap.size_update];exact Nat.ne_of_lt (Nat.lt_succ_of_lt ha)),Heap.get?_push_ne _ _ _ (by rw [Heap.size_update];exact Nat.ne_of_lt ha)];exact ho1
 show wpAny (model prog w) A _ P E { s with heap:=((s.heap.update a (Obj.mapSeq fun _=>#[])).push (seqObj "tuple" vs.toArray 0)).push (seqObj "list" #[] 0) }
 dsimp only
 have hsz:vs.toArray.size=vs.length:=by simp
 by_cases h2:vs.toArray.size < 2
 ·rw [if_pos h2,if_pos h2]
  refine wpAny_bind (wpAny_pure ?_)
  rw [StateT.run_pure]
  refine wpAny_bind (wpAny_pure ?_)
  dsimp only
  refine wpAny_bind (seqEpoch_at ho6 rfl (wpAny_bind (listUpdate_at ho6 rfl ?_ (hsz2:=by rw [Array.size_map];show (pairsOf vs).size <= _;rw [pairsOf_size];exact Nat.le_succ_of_le hz))))
  simp only [bne_self_eq_false,Bool.false_eq_true,if_false]
  exact wpAny_pure h
 ·rw [if_neg h2,if_neg h2]
  obtain ⟨v₁,v₂,rest,rfl⟩:∃ v₁ v₂ rest,vs=v₁::v₂::rest:=by
   cases vs with
   | nil=>simp at h2
   | cons v₁ r=>cases r with
    | nil=>simp at h2
    | cons v₂ rest=>exact ⟨v₁,v₂,rest,rfl⟩
  rw [hkk _ _ _ rfl]
  refine wpAny_bind (wpAny_pure ?_)
  refine wpAny_bind (wpAny_mono (ue (κ:=κ) hO (a₀:=pairsOf (v₁::v₂::rest)) (st:=SortSt.mk' oneType' ((v₁::v₂::rest).toArray.zip (v₁::v₂::rest).toArray) #[] 7 none)
   (Q:=fun _ st'=>arrOf st'=pairsOf (v₁::v₂::rest)/\failedOf st'=none) h0 ⟨Array.Perm.refl _,rfl,rfl,rfl⟩ (by rw [pairsOf_size];simp) rfl hs fun st' a1 a2=>⟨a1,a2⟩) ?_ fun _ _ e=>e)
  rintro ⟨⟨⟩,st'⟩ s' ⟨rfl,hp,hf⟩
  dsimp only
  refine wpAny_bind (seqEpoch_at ho6 rfl (wpAny_bind (listUpdate_at ho6 rfl ?_ (hsz2:=by refine Nat.le_trans (Nat.le_of_eq ((Array.size_map ..).trans ((congrArg Array.size hp).trans (pairsOf_size _)))) (Nat.le_succ_of_le hz)))))
  rw [hf]
  simp only [bne_self_eq_false,Bool.false_eq_true,if_false]
  refine wpAny_pure ?_
  have:((arrOf st').map (·.2))=((pairsOf (v₁::v₂::rest)).map (·.2)):=by rw [hp]
  rw [<- this] at h
  exact h
theorem xp (hO:κ.OneLt) {l:Addr} {vs:List Value} {Q:Value->Shared->Prop} (hl:s.heap.IsList l vs.toArray) (h0:KeysOf κ (pairsOf vs)) (hkk:∀ v₁ v₂ rest,vs=v₁::v₂::rest->keyKind' (v₁::v₂::rest).toArray=pure oneType')
    (hz:vs.length <= sizeLine) (hs:SortedToK κ (pairsOf vs) (pairsOf vs).size) (h:Q (.ref (s.heap.objs.size + 1)) { s with heap:=sortedAll s.heap vs ((pairsOf vs).map (·.2)) }) :
    wpAny (model prog w) A (call (.builtin "sorted") [.ref l]) Q E s:=by
 refine Calls.call_function_entry kind_sorted plain_sorted entry_sorted (args_sorted1 _) ?_
 unfold Builtin.«sorted»
 refine wpAny_bind (m:=checkCount "sorted" 1 1 _) (wpAny_pure (wpAny_bind (collect_list hl (wpAny_bind (wpAny_newList ?_)))))
 have hsz:((s.heap.push (seqObj "list" #[] 0)).update s.heap.objs.size (Obj.mapSeq (· ++ vs.toArray))).objs.size=s.heap.objs.size + 1:=by rw [Heap.size_update,size_push']
 have hoL:(((s.heap.push (seqObj "list" #[] 0)).update s.heap.objs.size (Obj.mapSeq (· ++ vs.toArray))).push (seqObj "list" vs.toArray 0)).get? (s.heap.objs.size + 1)=some (seqObj "list" vs.toArray 0):=by rw [<- hsz];exact Heap.get?_push_size _ rfl
 show wpAny _ _ _ _ _ { s with heap:=((s.heap.push (seqObj "list" #[] 0)).update s.heap.objs.size (Obj.mapSeq (· ++ vs.toArray))).push (seqObj "list" vs.toArray 0) }
 rw [hsz]
 refine wpAny_bind (wpAny_holding (wpAny_call_entry slot_list_sort ⟨_,hoL,rfl⟩ entry_list_sort (uf hO hoL h0 hkk hz hs ⟨_,rfl,?_⟩) (args_list_sort _)))
 exact wpAny_pure ⟨_,rfl,h⟩
end
theorem q9:∀ (l:List Str),jM l=true->l.Pairwise fun a b=>PySem.Spec.ltCps a.cps.toList b.cps.toList=true
 | [],_=>.nil
 | [a],_=>List.pairwise_singleton _ a
 | a::b::r,h=>by
  have h:(PySem.Spec.ltCps a.cps.toList b.cps.toList && jM (b::r))=true:=h
  rw [Bool.and_eq_true] at h
  have ih:=q9 (b::r) h.2
  refine List.pairwise_cons.mpr ⟨fun c hc=>?_,ih⟩
  rcases List.mem_cons.mp hc with rfl | hc
  ·exact h.1
  ·have h2:=(List.pairwise_cons.mp ih).1 c hc
   have h1:=h.1
   rw [ltCps_eq] at h1 h2 ⊢
   exact decide_eq_true (List.lt_trans (of_decide_eq_true h1) (of_decide_eq_true h2))
theorem mz:∀ {us:List Value} {ss:List Str},Vals (ss.map V.str) us->StrsAre us ss
 | [],[],_=>.nil
 | [],_::_,h=>by cases h
 | _::_,[],h=>by cases h
 | u::us,x::ss,h=>by
  cases h with
  | cons r h=>obtain ⟨t,rfl⟩:=r;exact .cons x t (mz h)
theorem pK {H:Hp} (ns:List Str):Reps H (ns.map V.str) (ns.map D.str):=by
 induction ns with
 | nil=>exact .nil
 | cons n ns ih=>exact .cons .str ih
theorem oo {H:Hp}:∀ {us:List V} {ss:List Str},Reps H us (ss.map D.str)->us=ss.map V.str
 | _,[],.nil=>rfl
 | _,_::_,.cons a r=>by cases a;rw [oo r];rfl
theorem lC:∀ {ys:List D} {ss:List Str},gr ys=some ss->ys=ss.map D.str
 | [],ss,h=>by cases h;rfl
 | d::ys,ss,h=>by
  cases d with
  | str x =>
   have h:(gr ys).map (x::·)=some ss:=h
   cases e:gr ys with
   | none=>rw [e] at h;cases h
   | some r=>rw [e] at h;cases h;rw [lC e];rfl
  | _=>cases h
section
variable {X:Cx}
theorem mB:CallR X (.builtin "sorted") (fun xs H Q=>∃ p ss,xs=[.ref p]/\SqL X.K H p (ss.map V.str)/\jM ss=true/\ss.length <= 100000/\∀ l,H l=none->Q (.ref l) (upd H l (.lst (ss.map V.str)))):=by
 intro pins s σ H xs us Q I r h
 obtain ⟨p,ss,rfl,hq,ho,hz0,q⟩:=h
 obtain ⟨u,rfl,rx⟩:=iX r
 cases rx
 obtain ⟨its,rv,pl,hz⟩:=I.list hq
 have hS:StrsAre its ss:=mz rv
 have hl:=rv.length
 rw [List.length_map] at hl hz
 have hsl:its.length <= sizeLine:=by rw [<- hl];exact hz
 have pw:=q9 ss ho
 have es:=hS.strs
 have srt:SortedToK strKind (pairsOf its) (pairsOf its).size:=by
  intro i j hij hj
  rw [pairsOf_size] at hj
  have key:∀ k (hk:k < its.length),∃ x t,its[k]=.str x t/\ss[k]?=some x/\KK strKind (pairsOf its) k=x.cps.toList:=by
   intro k hk
   obtain ⟨x,t,e⟩:=hS.all its[k] (List.getElem_mem hk)
   refine ⟨x,t,e,?_,?_⟩
   ·rw [<- es,List.getElem?_map,List.getElem?_eq_getElem hk,e];rfl
   ·have hk':k < (pairsOf its).size:=by rw [pairsOf_size];exact hk
    refine KK_str hk' (x:=x) (t:=t) (q:=.str x t) ?_
    have:(pairsOf its).toList=its.zip its:=pairsOf_toList its
    have h2:(pairsOf its).toList[k]?=some (its[k],its[k]):=by rw [this];exact List.getElem?_zip_eq_some.mpr ⟨(List.getElem?_eq_getElem hk:its[k]?=some (its[k],its[k]).1),(List.getElem?_eq_getElem hk:its[k]?=some (its[k],its[k]).2)⟩
    have h3:(pairsOf its)[k]?=some (its[k],its[k]):=by rw [<- Array.getElem?_toList];exact h2
    rw [Array.getElem?_eq_getElem hk'] at h3
    rw [Option.some.inj h3,e]
  obtain ⟨x,t,ex,sx,kx⟩:=key i (by omega)
  obtain ⟨y,u,ey,sy,ky⟩:=key j hj
  rw [kx,ky]
  show decide (y.cps.toList < x.cps.toList)=false
  by_cases e:i=j
  ·subst e
   rw [sx] at sy
   cases sy
   exact decide_eq_false (List.lt_irrefl _)
  ·obtain ⟨i1,i2⟩:=List.getElem?_eq_some_iff.mp sx
   obtain ⟨j1,j2⟩:=List.getElem?_eq_some_iff.mp sy
   have:=List.pairwise_iff_getElem.mp pw i j i1 j1 (by omega)
   rw [i2,j2,ltCps_eq] at this
   exact decide_eq_false (List.lt_asymm (of_decide_eq_true this))
 refine xp (κ:=strKind) strKind_oneLt pl.isList hS.keysOf (fun v₁ v₂ rest e=>keyKind_strs (by rw [<- e];exact hS)) hsl srt ?_
 obtain ⟨e,he⟩:=sortedAll_at s.heap its ((pairsOf its).map (·.2))
 have hfresh:H (s.heap.objs.size + 1)=none:=I.hok.fresh (Nat.le_succ _)
 have hout:((pairsOf its).map (·.2)).toList=its:=by
  rw [Array.toList_map,pairsOf_toList,List.map_snd_zip (Nat.le_refl _)]
 refine ⟨.ref (s.heap.objs.size + 1),_,I.laid (t':=s.toks) (fun b o h=>sortedAll_old h) (Nat.le_succ _) (?_:ObjOk X.prog X.w _ _ _ (.lst (ss.map V.str))),rfl,q _ hfresh⟩
 refine ⟨?_,((pairsOf its).map (·.2)).toList,e,by rw [hout];exact rv,he⟩
 rw [List.length_map]
 exact hz
theorem pL:∀ es,noX (gF es)=true:=by
 intro es
 unfold gF
 split
 ·split
  ·split
   ·split <;> rfl
   ·rfl
  ·rfl
 ·rfl
theorem r9:FCall X (.builtin "sorted") gF:=by
 refine ⟨CallR.pre mB ?_⟩
 rintro us H Q ⟨Hs,H0,vs,ds,es,d,hl,S,e,k⟩
 unfold gF at e
 split at e
 ·rename_i d1
  split at e
  ·rename_i ys hy
   split at e
   ·rename_i ss hn
    split at e
    ·rename_i hc
     cases e
     obtain ⟨u,rfl⟩:=eJ hl rfl
     have S':SR Hs H0 H (some u::vs) (some d1::ds):=S
     obtain ⟨a,us,rfl,ha,Hf,fp,O,F,R⟩:=S'.items hy
     rw [hc.1] at ha
     have hys:=lC hn
     subst hys
     have hus:=oo R
     subst hus
     exact ⟨a,ss,rfl,SqL.of ha,hc.2.1,hc.2.2,fun l hl=>k _ _ (SR.laidL O F (pK _) (fun e m=>by obtain ⟨i,_,rfl⟩:=List.mem_map.mp m;rfl) hl)⟩
    ·cases e
   ·cases e
  ·cases e
 ·cases e
end
section
variable {X:Cx} {pins:List (Addr × Obj)} {σ:St} {H:Hp} {s:Shared}
theorem Ah (I:Inv X pins σ H s) (n:Nat) {a a':Addr} {d d':D} {b:Bool} (hu:X.A.units + (n + 1) < cLine) (r1:Rep H (.ref a) d) (r2:Rep H (.ref a') d') (h:a0 (n + 1) d d'=some b):SeqAt.RcNeAt X.A s (.ref a) (.ref a') (!b):=by
 have items:∀ {us us':List V} {its its':List Value} {xs ys:List D} {b:Bool},Reps H us xs->Reps H us' ys->Vals us its->Vals us' its'->xs.length=ys.length->dU ((xs.zip ys).map fun p=>a0 n p.1 p.2)=some b →
     ∃ e:Nat->Bool,(∀ j (h1:j < its.toArray.size) (h2:j < its'.toArray.size),SeqAt.EqAt X.A.in1 s its.toArray[j] its'.toArray[j] (e j))/\b=(List.range its.toArray.size).all e:=by
  intro us us' its its' xs ys b q1 q2 w1 w2 hl h
  obtain ⟨e,he,hb⟩:=jL h
  have l1:((xs.zip ys).map fun p=>a0 n p.1 p.2).length=its.length:=by rw [List.length_map,List.length_zip,<- w1.length,q1.length];omega
  refine ⟨e,fun j h1 h2=>?_,by rw [hb,l1];rfl⟩
  have j1:j < its.length:=by simpa using h1
  have j2:j < its'.length:=by simpa using h2
  have:=he j (by rw [l1];exact j1)
  rw [List.getElem?_map] at this
  cases ez:(xs.zip ys)[j]? with
  | none=>rw [ez] at this;cases this
  | some p =>
   rw [ez] at this
   have hd:a0 n p.1 p.2=some (e j):=Option.some.inj this
   obtain ⟨hx,hy⟩:=List.getElem?_zip_eq_some.mp ez
   obtain ⟨v1,hv1,rp1⟩:=q1.get hx
   obtain ⟨v2,hv2,rp2⟩:=q2.get hy
   obtain ⟨u1,hu1,rl1⟩:=w1.get hv1
   obtain ⟨u2,hu2,rl2⟩:=w2.get hv2
   have g1:its.toArray[j]=u1:=by rw [List.getElem?_eq_getElem j1] at hu1;simpa using Option.some.inj hu1
   have g2:its'.toArray[j]=u2:=by rw [List.getElem?_eq_getElem j2] at hu2;simpa using Option.some.inj hu2
   rw [g1,g2]
   exact (o6 I n X.A.in1 (show X.A.units + 1 + n < cLine by omega) rp1 rp2 rl1 rl2 hd).1
 cases d with
 | lst t xs =>
  cases d' with
  | lst t' ys =>
   cases r1 with
   | lst h1 q1 =>
    cases r2 with
    | lst h2 q2 =>
     obtain ⟨its,w1,p1,_⟩:=I.list (SqL.of h1)
     obtain ⟨its',w2,p2,_⟩:=I.list (SqL.of h2)
     unfold a0 at h
     by_cases hl:xs.length=ys.length
     ·rw [if_pos hl] at h
      obtain ⟨e,he,hb⟩:=items q1 q2 w1 w2 hl h
      rw [hb]
      exact SeqAt.RcNeAt.lists p1.isList p2.isList (by simp [<- w1.length,<- w2.length,q1.length,q2.length,hl]) (by omega) he
     ·rw [if_neg hl] at h
      cases h
      exact SeqAt.RcNeAt.lists_lengths p1.isList p2.isList (by simp [<- w1.length,<- w2.length,q1.length,q2.length];exact hl) (by omega)
  | _=>simp [a0] at h
 | tup xs =>
  cases d' with
  | tup ys =>
   cases r1 with
   | tup h1 q1 =>
    cases r2 with
    | tup h2 q2 =>
     obtain ⟨its,w1,p1,_⟩:=I.tuple (SqT.of h1)
     obtain ⟨its',w2,p2,_⟩:=I.tuple (SqT.of h2)
     unfold a0 at h
     by_cases hl:xs.length=ys.length
     ·rw [if_pos hl] at h
      obtain ⟨e,he,hb⟩:=items q1 q2 w1 w2 hl h
      have lz:its.toArray.size=its'.toArray.size:=by simp [<- w1.length,<- w2.length,q1.length,q2.length,hl]
      have:=SeqAt.RcNeAt.tuples (s:=s) (A:=X.A) (show s.heap.IsTuple _ its.toArray from p1) (show s.heap.IsTuple _ its'.toArray from p2) (by omega) he
      rw [<- lz,Nat.min_self,beq_self_eq_true,Bool.and_true] at this
      rw [hb]
      exact this
     ·rw [if_neg hl] at h;cases h
  | _=>simp [a0] at h
 | int i=>cases r1
 | str i=>cases r1
 | _=>cases r2 <;> simp [a0] at h
end
section
variable {X:Cx}
theorem y6 (hu:X.A.units + 4 < cLine):OpR X (compareOp .NotEq) (fun x y H Q=>∃ d d' b a a',x=.ref a/\y=.ref a'/\Rep H x d/\Rep H y d'/\a0 4 d d'=some b/\Q (.bl (!b)) H):=by
 intro pins s σ H x y v u Q I rx ry h
 obtain ⟨d,d',b,a,a',rfl,rfl,r1,r2,hd,q⟩:=h
 cases rx;cases ry
 exact Ah I 3 hu r1 r2 hd _ _ _ _ ⟨.bl (!b),H,I,rfl,q⟩
theorem jk:∀ x y,noX (dNe x y)=true:=by
 intro x y
 unfold dNe
 split
 ·split <;> rfl
 ·exact fW _ _ _
theorem mC (hu:X.A.units + 4 < cLine):FOp X (compareOp .NotEq) dNe:=by
 refine ⟨OpR.pre (OpR.or (y6 hu) (jh (X:=X)).go) ?_⟩
 rintro x y H Q ⟨Hs,H0,vs,ds,d1,d2,d,S,e,k⟩
 unfold dNe at e
 split at e
 ·rename_i hs
  split at e
  ·rename_i b hb
   cases e
   obtain ⟨a,rfl⟩:=ld S.drop.head hs.1
   obtain ⟨a',rfl⟩:=ld S.head hs.2
   exact .inl ⟨d1,d2,b,a,a',rfl,rfl,S.drop.head,S.head,hb,k _ H S.drop.drop.bl⟩
  ·cases e
 ·exact .inr ⟨Hs,H0,vs,ds,d1,d2,d,S,e,k⟩
end
section
variable {X:Cx} {Ex:Value->Prop} {H0:Hp} {e:Expr} {f:ae->Res D} {pos:Pos}
end
noncomputable def Itn (K:PySem.W.Frag) (a:Addr):It:=
 ⟨fun i H=>∃ xs v,SqL K H a xs/\xs[i]?=some v,
  fun i H y H'=>∃ p v,H p=none/\H'=upd H p (.tup [.int (i:Int),v])/\y=.ref p/\(∀ xs,SqL K H a xs->xs[i]?=some v),
  fun i H=>∃ xs,SqL K H a xs/\i=xs.length⟩
noncomputable def tnn (e it a:Addr) (i:Nat) (h:Heap):Prop:=(∃ old,IsEnum h e it (i:Int) old)/\h.IsListIter it a i
theorem ug {P:Program} {w:World} {K:PySem.W.Frag} {elts:List Expr} {x1} {pos:Pos} {a e it:Addr} (ne:e ≠ it):Turn P w K (.Tuple elts x1 pos) (Itn K a) [e,it] e (tnn e it a) where
 mem:=List.mem_cons_self
 obj:=fun i h st b hb=>by
  obtain ⟨⟨old,h1⟩,⟨o4,h4,_,d4⟩⟩:=st
  simp only [List.mem_cons,List.not_mem_nil,or_false] at hb
  rcases hb with rfl | rfl
  ·exact ⟨_,h1,fun v z=>nomatch z⟩
  ·exact ⟨_,h4,fun v z=>by rw [d4] at z;cases z⟩
 keep:=fun i h h' st k=>by
  obtain ⟨⟨old,h1⟩,⟨o4,h4,r4⟩⟩:=st
  exact ⟨⟨old,k e (by simp) _ h1⟩,⟨o4,k it (by simp) _ h4,r4⟩⟩
 item:=by
  intro X e1 e2 e3 hc i pins s σ H E I hf st hg
  subst e1 e2 e3
  obtain ⟨xs,v,hq,hv⟩:=hg
  obtain ⟨⟨old,h1⟩,h4⟩:=st
  obtain ⟨its,rv,pl,hz⟩:=I.list hq
  obtain ⟨u,hu,ru⟩:=rv.get hv
  have na:a ≠ it/\a ≠ e:=by
   obtain ⟨oa,ea,ca,_⟩:=pl.isList
   obtain ⟨o4,e4,c4,_⟩:=h4
   refine ⟨fun z=>?_,fun z=>?_⟩
   ·rw [z,e4] at ea;cases ea;rw [c4] at ca;exact absurd ca (by decide)
   ·rw [z,h1] at ea;cases ea;exact (show Value.type "enumerate" ≠ Value.type "list" by decide) ca
  have l1:i < its.toArray.size:=by
   rw [List.size_toArray];exact (List.getElem?_eq_some_iff.mp hu).1
  have hh:=I.ok.hd hc
  refine wpAny_pyNext_enum_itemD (Draws.list (prog:=X.prog) (w:=X.w) (A:=X.A.in1) hh it a na.1 its.toArray) h1 ⟨h4,pl.isList⟩ l1 ne (by simp only [List.mem_cons,List.not_mem_nil,or_false,not_or];exact ⟨ne,Ne.symm na.2⟩) fun vx g tk p1 he' hs1 pr hz' kp=>⟨_,rfl,?_⟩
  have hvx:vx=u:=by
   have p1:its.toArray[i]?=some vx:=p1
   rw [List.getElem?_toArray,hu] at p1
   exact (Option.some.inj p1).symm
  subst hvx
  refine wpAny_letOwnedTupleGo_enum (s:={ s with heap:=g,toks:=tk + 1 }) he' fun g2 hz2 sb=>?_
  have lt:∀ {b o},s.heap.get? b=some o->b ≠ s.heap.objs.size:=fun e=>Nat.ne_of_lt (Heap.lt_size e)
  have kp2:∀ b o,b ∉ [e,it]->s.heap.get? b=some o->g2.get? b=some o:=fun b o hb q=>by
   simp only [List.mem_cons,List.not_mem_nil,or_false,not_or] at hb
   exact sb.extBut _ _ hb.1 (kp b o hb.1 hb.2 q)
  have prT:g2.get? s.heap.objs.size=some { cls:=.type "tuple", data:=.seq #[.int i tk,vx] }:=sb.extBut _ _ (Ne.symm (lt h1)) pr
  have J:Inv X pins σ (upd H s.heap.objs.size (.tup [.int (i:Int),v])) { s with heap:=g2,toks:=tk + 1 }:=Inv.turnLay (us:=[.int (i:Int),v]) I kp2 (fun b hb=>hf b hb) (Nat.le_refl _) ⟨show 2 <= sizeLine by decide,[.int i tk,vx],.cons ⟨tk,rfl⟩ (.cons ru .nil),⟨_,prT,rfl,_,rfl⟩⟩
  refine ⟨.ref s.heap.objs.size,upd H s.heap.objs.size (.tup [.int (i:Int),v]),J,rfl,
   ⟨_,v,I.hok.fresh (Nat.le_refl _),rfl,rfl,fun ys hy=>by rw [I.list_inj hy hq];exact hv⟩,⟨⟨_,by have:=hz2;simpa using this⟩,hs1.1.extBut sb.extBut (Ne.symm ne)⟩,fun b hb=>?_⟩
  simp only [List.mem_cons,List.not_mem_nil,or_false] at hb
  have:∃ o,s.heap.get? b=some o:=by
   rcases hb with rfl | rfl
   ·exact ⟨_,h1⟩
   ·obtain ⟨o4,e4,_⟩:=h4;exact ⟨_,e4⟩
  obtain ⟨o,ho⟩:=this
  rw [aZ (lt ho)]
  exact (hf b (by simpa using hb)).1
 done:=by
  intro X e1 e2 e3 hc i pins s σ H E I hf st hg
  subst e1 e2 e3
  obtain ⟨xs,hq,hi⟩:=hg
  obtain ⟨⟨old,h1⟩,h4⟩:=st
  obtain ⟨its,rv,pl,hz⟩:=I.list hq
  have hlen:=rv.length
  have na:a ≠ it:=by
   obtain ⟨oa,ea,ca,_⟩:=pl.isList
   obtain ⟨o4,e4,c4,_⟩:=h4
   intro z;rw [z,e4] at ea;cases ea;rw [c4] at ca;exact absurd ca (by decide)
  have hsz:i=its.toArray.size:=by rw [List.size_toArray,<- hlen,hi]
  subst hsz
  refine wpAny_pyNext_enum_endD (Draws.list (prog:=X.prog) (w:=X.w) (A:=X.A.in1) (I.ok.hd hc) it a na its.toArray) h1 ⟨h4,pl.isList⟩ fun g kp=>⟨rfl,Inv.turnL (tk:=s.toks) (ch:=[e,it]) I (fun b o hb q=>kp b o (fun z=>hb (by simp [z])) q) fun b hb=>hf b hb⟩
 self:=fun _ _ _ _ _ st h=>wpAny_pyIter_enum st.1.choose_spec h
section
variable {X:Cx} {Ex:Value->Prop} {H0:Hp} {a:Expr} {elts:List Expr} {x1:Nat} {p pos pos':Pos} {ta:TA} {fa:ae->Res (List D)}
noncomputable def Ai (K:PySem.W.Frag) (ta:TA):TI:=fun σ H R=>ta σ H fun vs H1=>∃ l,vs=[.ref l]/\(∃ xs,SqL K H1 l xs)/\R (Itn K l) H1
theorem xq (hg:Gl X "enumerate") (hm:X.mg "enumerate" = none) (ha:PA X [a] ta) (h1:starEach [a] X.env=(false,eval a X.env)::starEach [] X.env) (h2:(backTo pos' (starEach [] X.env)).any (·.1)=false) :
    PI X (.Tuple elts x1 pos) (.Call (.Name "enumerate" p) [a] [] pos') (Ai X.K ta):=by
 intro pins s σ H R I h
 have hv:bootBuiltins "enumerate" = some (.type "enumerate"):=by decide +kernel
 refine wpAny_Call_Name_kw (iD I hg hm hv ?_ (by decide) (by decide))
 refine PyProof.Rows.callWith_type1 (thn (ha pos' pins s σ H _ I h) fun us s1 ⟨vs,H1,I1,r1,q1⟩=>?_) h1 h2
 obtain ⟨l,rfl,⟨xs,hq⟩,q⟩:=q1
 cases r1 with
 | cons ra r2 =>
  cases r2
  cases ra
  obtain ⟨its,rv,pl,_⟩:=I1.list hq
  refine call_enumerate_list pl.isList fun g z1 z2 z3 kp=>wpAny_pyIter_enum z1 ?_
  refine ⟨s1.heap.objs.size + 1,[s1.heap.objs.size + 1,s1.heap.objs.size],_,_,H1,rfl,I1.kept (t':=s1.toks) kp,ug (Nat.succ_ne_self _),⟨⟨_,z1⟩,z2⟩,fun c hc=>?_,q⟩
  have:s1.heap.objs.size <= c:=by
   simp only [List.mem_cons,List.not_mem_nil,or_false] at hc
   rcases hc with rfl | rfl <;> first | exact Nat.le_refl _ | exact Nat.le_add_right _ _
  exact I1.fpOk this (I1.hok.fresh this)
noncomputable def jN (ys:List D):List D:=ys.zipIdx.map fun p=>.tup [.int (p.2:Int),p.1]
theorem y7 {K:PySem.W.Frag} {B:Hp} {l:Addr} {us:List V} {ds:List D} (h:B l=some (.lst us)) (R:Reps B us ds):gD (Itn K l) B (jN ds):=by
 intro H s i
 have hl:=R.length
 refine ⟨fun d hd=>?_,fun hi=>⟨us,SqL.of (s _ _ h),?_⟩⟩
 ·simp only [jN,List.getElem?_map,List.getElem?_zipIdx] at hd
  cases e:ds[i]? with
  | none=>rw [e] at hd;cases hd
  | some q =>
   rw [e] at hd
   have hd:D.tup [.int ((0 + i:Nat):Int),q]=d:=Option.some.inj hd
   rw [Nat.zero_add] at hd
   subst hd
   obtain ⟨u,hu,ru⟩:=R.get e
   refine ⟨⟨us,u,SqL.of (s _ _ h),hu⟩,fun y H' ⟨z,v,z1,z2,z3,z4⟩=>⟨rfl,.inr ⟨z,_,_,z1,z2,z3,rfl,?_⟩⟩⟩
   have:=z4 us (SqL.of (s _ _ h))
   rw [hu] at this
   cases this
   exact .cons .int (.cons ru .nil)
 ·rw [hi,jN,List.length_map,List.length_zipIdx,<- hl]
noncomputable def dN (fa:ae->Res (List D)):ae->Res (List D):=fun ρ=>fa ρ >>= fun es=>match es with
 | [d]=>if d.tag=.b \/ d.isL=false then .bad else bE (d.its.map jN)
 | _=>.bad
theorem jl (hg:Gl X "enumerate") (hm:X.mg "enumerate" = none) (ha:FA X H0 Ex [a] fa) (h1:starEach [a] X.env=(false,eval a X.env)::starEach [] X.env:=by rfl) (h2:(backTo pos' (starEach [] X.env)).any (·.1)=false:=by rfl) :
    FI X H0 Ex (.Tuple elts x1 pos) (.Call (.Name "enumerate" p) [a] [] pos') (dN fa):=by
 refine ⟨PI.pre (xq hg hm ha.go h1 h2) ?_⟩
 rintro σ H R ⟨Hs,ρ,ts,S,pp⟩
 refine ⟨Hs,ρ,ts,S,(Post.bind pp).imp fun es _ p1 us H1 hl S1=>?_⟩
 split at p1
 ·rename_i d _
  split at p1
  ·exact p1.elim
  ·rename_i hc
   have tb:d.tag ≠ .b:=fun z=>hc (.inl z)
   have il:d.isL=true:=by cases q:d.isL with | true=>rfl | false=>exact absurd (.inr q) hc
   obtain ⟨u,rfl⟩:=eJ hl rfl
   have S2:SR Hs H0 H1 (some u::(tvs ts ++ σ)) (some d::(tds ts ++ ρ)):=SX.held hl S1
   cases e:d.its with
   | none=>rw [e] at p1;exact p1.elim
   | some ys =>
    rw [e] at p1
    obtain ⟨Hf,fp,O,F⟩:=S2
    obtain ⟨l,vs,rfl,Hg,fq,O',F',_,hl',R'⟩:=O.itemsC F e tb
    rw [il] at hl'
    exact ⟨l,rfl,⟨vs,SqL.of (F'.fh _ _ hl')⟩,p1 _ H1 Hg fq (y7 hl' R') O' F'⟩
 ·exact p1.elim
end
section
variable {X:Cx} {Ex:Value->Prop} {H0:Hp} {c e k:Expr} {f fk:ae->Res D} {pos:Pos}
end
section
variable {X:Cx}
end
section
variable {X:Cx} {Ex:Value->Prop} {H0:Hp} {e:Expr} {pos:Pos}
end
section
variable {X:Cx} {Ex:Value->Prop} {H0:Hp} {st:Stmt} {g:ae->FOut}
end
section
variable {X:Cx}
theorem jO {H:Hp}:∀ {us:List V} {xs:List D} {ns:List Int},Reps H us xs->dA xs=some ns->us=ns.map V.int
 | _,_,_,.nil,h=>by simp [dA] at h;subst h;rfl
 | _,_,ns,.cons (d:=d) a r,h=>by
  cases d with
  | int b =>
   cases a
   unfold dA at h
   cases e:dA _ with
   | none=>rw [e] at h;cases h
   | some cs=>rw [e] at h;cases h;rw [jO r e];rfl
  | _=>cases h
end
noncomputable def o7 (g:ae->FOut):ae->FOut:=fun ρ=>match g ρ with
 | .exc _=>.bad
 | r=>r
noncomputable def iK (d:D) (ys:List D):Option Bool:=match dU (ys.map fun y=>(a0 3 y d).map (!·)) with
 | some b=>some (!b)
 | none=>none
noncomputable def dIn (neg:Bool):D->D->Res D:=fun x y=>match y with
 | .lst _ ys=>match iK x ys with
  | some b=>.ok (.bl (neg != b))
  | none=>.bad
 | _=>.bad
noncomputable def nF (fo f:ae->Res D):ae->Res D:=fun ρ=>fo ρ >>= fun d=>match d with
 | .lst .f xs=>match dA xs with
  | some ns=>f ρ >>= fun e=>match e with
   | .int k=>if k ∈ ns/\ns.length <= 1000 then .ok (.int (ns.idxOf k:Nat)) else .bad
   | _=>.bad
  | none=>.bad
 | _=>.bad
noncomputable def iy (i:Nat) (f:ae->Res D):ae->FOut:=fun ρ=>match ρ[i]? with
 | some (some (.lst .o xs))=>aft (f ρ) fun d=>match d with
  | .lst .o ys=>if sizeLine < xs.length + ys.length then .bad else .nx (ρ.set i (some (.lst .o (xs ++ ys))))
  | _=>.bad
 | _=>.bad
section
variable {X:Cx} {Ex:Value->Prop} {H0:Hp} {g:ae->FOut} {body:List Stmt} {pos:Pos}
theorem xr {hd:ExceptHandler} {hs:List ExceptHandler}
    (hb:∀ (E':Value->Shared->Prop) (pn':List (Addr × Obj)) (H0':Hp) (Ex':Value->Prop),Pa (Cx.att X E' pn') H0' Ex'->FSs (Cx.att X E' pn') H0' Ex' body g) :
    FS X H0 Ex (.Try body (hd::hs) [] [] pos) (o7 g):=by
 refine ⟨?_⟩
 intro pins s σ H En I h
 obtain ⟨Hs,ρ,⟨S,nB⟩,p⟩:=h
 obtain ⟨Hf,fp,Ow,F⟩:=S
 refine wpAny_Try_except ?_
 let Eh:Value->Shared->Prop:=fun e s₁=>wpAny (model X.prog X.w) X.A (noteFrame e X.env) (fun _ s₂=>wpAny (model X.prog X.w) X.A (setFlight e none) (fun _ s₃=>wpAny (model X.prog X.w) X.A (handleBy e X.env (hd::hs)) (SP X pins En) X.xe s₃) X.xe s₂) X.xe s₁
 have hPa:Pa (Cx.att X Eh (X.pn ++ pins)) (gn H fp) (fun _=>False):=by
  refine ⟨?_⟩
  intro pins1 σ1 H1 s1 e s' I1 hx
  obtain ⟨a,C',H',rfl,hos,bare,u,hok,_,z,sm⟩:=hx
  exact z.elim
 refine wpAny_mono ((hb Eh (X.pn ++ pins) (gn H fp) (fun _=>False) hPa).go [] s σ H En (Inv.att I) ⟨Hf,ρ,⟨⟨Hf,fp,Ow,F.nd,fun b m=>⟨(F.own b m).1,by unfold gn;rw [if_pos m]⟩,F.fh,rZ,Same.refl _,fun b o e=>.inl ⟨o,e⟩⟩,nB⟩,?_⟩) (fun f s1 q=>?_) fun _ _ z=>z
 ·unfold o7 at p
  cases eg:g ρ with
  | nx ρ'=>rw [eg] at p;exact fun σ' H' S'=>p σ' H' ⟨SR.back F S'.1,S'.2⟩
  | rt d=>rw [eg] at p;exact fun v H' S'=>p v H' (SR.back F S')
  | bk ρ'=>rw [eg] at p;exact fun σ' H' S'=>p σ' H' ⟨SR.back F S'.1,S'.2⟩
  | ct ρ'=>rw [eg] at p;exact fun σ' H' S'=>p σ' H' ⟨SR.back F S'.1,S'.2⟩
  | bad=>rw [eg] at p;exact p
  | exc C'=>rw [eg] at p;exact p
 ·have q:=SP.unatt q
  cases f with
  | next=>exact wpAny_execs_nil q
  | ret v=>exact q
  | brk=>exact q
  | cont=>exact q
end
section
variable {X:Cx}
theorem uh {pins:List (Addr × Obj)} {σ:St} {H:Hp} {s:Shared} (I:Inv X pins σ H s) (hu:X.A.units + 4 < cLine) {x:V} {v:Value} {d:D} (rx:Rep H x d) (rv:RelV x v) {us:List V} {ys:List D} {its:List Value} (q:Reps H us ys) (w:Vals us its) {b:Bool} (hm:iK d ys=some b) :
    ∃ e:Value->Bool,(∀ y,y ∈ its.toArray->SeqAt.EqAt X.A.in1 s y v (e y))/\its.toArray.any e=b:=by
 classical
 unfold iK at hm
 split at hm
 ·rename_i b0 hb0
  cases hm
  obtain ⟨e,he,hb⟩:=jL hb0
  have hlen:(ys.map fun y=>(a0 3 y d).map (!·)).length=its.length:=by rw [List.length_map,<- w.length,q.length]
  have key:∀ j (hj:j < its.length),SeqAt.EqAt X.A.in1 s its[j] v (!e j):=by
   intro j hj
   have:=he j (by rw [hlen];exact hj)
   rw [List.getElem?_map] at this
   cases ez:ys[j]? with
   | none=>rw [ez] at this;cases this
   | some y =>
    rw [ez] at this
    have this:(a0 3 y d).map (!·)=some (e j):=Option.some.inj this
    cases ed:a0 3 y d with
    | none=>rw [ed] at this;cases this
    | some bb =>
     rw [ed] at this
     have this:(!bb)=e j:=Option.some.inj this
     obtain ⟨v1,hv1,rp1⟩:=q.get ez
     obtain ⟨u1,hu1,rl1⟩:=w.get hv1
     have g1:its[j]=u1:=by rw [List.getElem?_eq_getElem hj] at hu1;exact Option.some.inj hu1
     rw [g1,<- this,Bool.not_not]
     exact (o6 I 3 X.A.in1 (show X.A.units + 1 + 3 < cLine by omega) rp1 rx rl1 rv ed).1
  refine ⟨fun y=>decide (∃ j,∃ hj:j < its.length,its[j]=y/\e j=false),fun y hy=>?_,?_⟩
  ·have hy:y ∈ its:=by simpa using hy
   dsimp only
   by_cases hex:∃ j,∃ hj:j < its.length,its[j]=y/\e j=false
   ·rw [decide_eq_true hex]
    obtain ⟨j,hj,rfl,e0⟩:=hex
    have:=key j hj
    rw [e0] at this
    exact this
   ·rw [decide_eq_false hex]
    obtain ⟨j,hj,rfl⟩:=List.getElem_of_mem hy
    have:=key j hj
    have e1:e j=true:=by
     cases h:e j with
     | true=>rfl
     | false=>exact absurd ⟨j,hj,rfl,h⟩ hex
    rw [e1] at this
    exact this
  ·rw [hb,hlen,Bool.eq_iff_iff,Array.any_eq_true']
   constructor
   ·rintro ⟨y,hy,hd⟩
    obtain ⟨j,hj,_,e0⟩:=of_decide_eq_true hd
    rw [Bool.not_eq_true',List.all_eq_false]
    exact ⟨j,List.mem_range.mpr hj,by rw [e0];decide⟩
   ·intro h
    rw [Bool.not_eq_true',List.all_eq_false] at h
    obtain ⟨j,hj,hn⟩:=h
    have hj:=List.mem_range.mp hj
    refine ⟨its[j],by simp,decide_eq_true ⟨j,hj,rfl,by simpa using hn⟩⟩
 ·cases hm
theorem y8 (hu:X.A.units + 4 < cLine):OpR X (compareOp .In) (fun x y H Q=>∃ d ys b a us,y=.ref a/\Rep H x d/\H a=some (.lst us)/\Reps H us ys/\iK d ys=some b/\Q (.bl b) H):=by
 intro pins s σ H x y v u Q I rx ry h
 obtain ⟨d,ys,b,a,us,rfl,r1,ha,q,hm,k⟩:=h
 cases ry
 obtain ⟨its,w,pl,_⟩:=I.list (SqL.of ha)
 obtain ⟨e,he,hb⟩:=uh I hu r1 rx q w hm
 exact SeqAt.in_listAt e pl.isList he (by rw [hb];exact ⟨.bl b,H,I,rfl,k⟩)
theorem ui (hu:X.A.units + 4 < cLine):OpR X (compareOp .NotIn) (fun x y H Q=>∃ d ys b a us,y=.ref a/\Rep H x d/\H a=some (.lst us)/\Reps H us ys/\iK d ys=some b/\Q (.bl (!b)) H):=by
 intro pins s σ H x y v u Q I rx ry h
 obtain ⟨d,ys,b,a,us,rfl,r1,ha,q,hm,k⟩:=h
 cases ry
 obtain ⟨its,w,pl,_⟩:=I.list (SqL.of ha)
 obtain ⟨e,he,hb⟩:=uh I hu r1 rx q w hm
 exact SeqAt.notIn_listAt e pl.isList he (by rw [hb];exact ⟨.bl (!b),H,I,rfl,k⟩)
theorem lf (n:Bool):∀ x y,noX (dIn n x y)=true:=by
 intro x y
 unfold dIn
 split
 ·split <;> rfl
 ·rfl
theorem wx (hu:X.A.units + 4 < cLine):FOp X (compareOp .In) (dIn false):=by
 refine ⟨OpR.pre (y8 hu) ?_⟩
 rintro x y H Q ⟨Hs,H0,vs,ds,d1,d2,d,S,e,k⟩
 unfold dIn at e
 split at e
 ·rename_i t ys
  split at e
  ·rename_i b hb
   cases e
   have h2:=S.head
   cases h2 with
   | lst q R =>
    refine ⟨d1,ys,b,_,_,rfl,S.drop.head,q,R,hb,?_⟩
    have:(false != b)=b:=by cases b <;> rfl
    rw [<- this]
    exact k _ H S.drop.drop.bl
  ·cases e
 ·cases e
theorem pM (hu:X.A.units + 4 < cLine):FOp X (compareOp .NotIn) (dIn true):=by
 refine ⟨OpR.pre (ui hu) ?_⟩
 rintro x y H Q ⟨Hs,H0,vs,ds,d1,d2,d,S,e,k⟩
 unfold dIn at e
 split at e
 ·rename_i t ys
  split at e
  ·rename_i b hb
   cases e
   have h2:=S.head
   cases h2 with
   | lst q R =>
    refine ⟨d1,ys,b,_,_,rfl,S.drop.head,q,R,hb,?_⟩
    have:(true != b)=!b:=by cases b <;> rfl
    rw [<- this]
    exact k _ H S.drop.drop.bl
  ·cases e
 ·cases e
end
section
variable {X:Cx} {Ex:Value->Prop} {H0:Hp} {e:Expr} {f:ae->Res D} {pos:Pos}
theorem uj:MtR X "list.index" (fun x vs H Q=>∃ (l:Addr) (ns:List Int) (k:Int),x=.ref l/\vs=[.int k]/\SqL X.K H l (ns.map V.int)/\k ∈ ns/\ns.length <= 1000/\Q (.int (ns.idxOf k:Nat)) H):=by
 intro pins s σ H x vs v us Q I rx rv h
 obtain ⟨l,ns,k,rfl,rfl,hq,hk,hl,q⟩:=h
 cases rx
 cases rv with
 | cons ru r2 =>
  cases r2
  obtain ⟨t,rfl⟩:=ru
  obtain ⟨its,w,pl,_⟩:=I.list hq
  have hi:IntsAre its ns:=jB w
  obtain ⟨⟨cls,dd,data,sl⟩,ho,hc,n,hd⟩:=id pl.isList
  simp only at hc hd
  subst hc hd
  have hlen:=hi.length
  have hj:ns.idxOf k < ns.length:=List.idxOf_lt_length_iff.mpr hk
  refine call_meets PySem.F.slot_list_index ⟨_,ho,rfl⟩ PySem.F.entry_list_index (PySem.F.args_list_index_2 _ _)
   (SeqAt.list_indexAt l its.toArray n dd sl (.int k t) (isInt k) (ns.idxOf k) (by simpa [hlen] using hj) (by omega) ?_ ?_) ⟨ho,fun y hy=>(eq_isInt k t hi y (by simpa using hy)).at _ _,⟨.int _,H,I.tok _,⟨_,rfl⟩,q⟩⟩
  ·show isInt k its[ns.idxOf k]=true
   rw [isInt_at k hi _ (by omega) hj]
   simpa using List.getElem_idxOf hj
  ·intro j hjs hlt
   show isInt k its[j]=false
   rw [isInt_at k hi j (by simpa using hjs) (by omega)]
   exact ne_of_lt_idxOf hlt _
theorem uk {o:Expr} {fo:ae->Res D} {apos cpos:Pos} (ho:FE X H0 Ex o fo) (he:FE X H0 Ex e f)
    (hbase:attributeBase o "index" X.env (eval o X.env)=eval o X.env:=by rfl)
    (hfew:((backTo cpos (starEach [e] X.env)).all (fun x=>!x.1) && (backToKw cpos (keywordEach [] X.env)).all (fun x=>x.1.isSome) && decide (([e]:List Expr).length + ([]:List Keyword).length + (if ([]:List Keyword).isEmpty then 0 else 1) < 30))=true:=by rfl)
    (hline:(apos.endLine == cpos.line)=true:=by rfl) (hplain:(backTo cpos (starEach [] X.env)).any (·.1)=false:=by rfl) (hs1:starEach [e] X.env=(false,eval e X.env)::starEach [] X.env:=by rfl) :
    FE X H0 Ex (.Call (.Attribute o "index" apos) [e] [] cpos) (nF fo f):=by
 refine ⟨PE.pre (kW PySem.F.plainAttrs_list PySem.F.slot_list_index PySem.F.type_list_index uj ho.go (dw he.go eG hs1) hbase hfew hline hs1 hplain) ?_⟩
 rintro σ H Q ⟨Hs,ρ,ts,S,p⟩
 refine ⟨Hs,ρ,ts,S,(Post.bind p).imp fun d1 _ p1 v1 H1 S1=>?_⟩
 split at p1
 ·rename_i xs _
  split at p1
  ·rename_i ns hns
   have S1:SR Hs H0 H1 (some v1::(tvs ts ++ σ)) (some (.lst .f xs)::(tds ts ++ ρ)):=S1
   have hh:=S1.head
   cases hh with
   | lst q1 R =>
    rename_i a us _
    refine ⟨.inl ⟨rfl,us,SqL.of q1⟩,Hs,ρ,(.ref a,.lst .f xs)::ts,S1,(Post.bind p1).imp fun d2 _ p2 v2 H2 S2=>?_⟩
    split at p2
    ·rename_i k _
     split at p2
     ·rename_i hc
      have S2:SR Hs H0 H2 (some v2::some (.ref a)::(tvs ts ++ σ)) (some (.int k)::some (.lst .f xs)::(tds ts ++ ρ)):=S2
      cases SR.isInt S2
      have h3:=S2.drop.head
      cases h3 with
      | lst q3 R3 =>
       refine ⟨a,ns,k,rfl,rfl,?_,hc.1,hc.2,p2 _ H2 S2.drop.drop.int⟩
       rw [<- jO R3 hns]
       exact SqL.of q3
     ·exact p2.elim
    ·exact p2.elim
  ·exact p1.elim
 ·exact p1.elim
end
theorem SR.extend {Hs H0 H:Hp} {vs:List (Option V)} {ds:List (Option D)} {v:V} {ys:List D} (S:SR Hs H0 H (some v::vs) (some (.lst .o ys)::ds)) (n:noB ds) {i:Nat} {xs:List D} (e:ds[i]?=some (some (.lst .o xs))) :
    ∃ p us b zs,v=.ref b/\vs[i]?=some (some (.ref p))/\H p=some (.lst us)/\us.length=xs.length/\H b=some (.lst zs)/\zs.length=ys.length/\SR Hs H0 (upd H p (.lst (us ++ zs))) vs (ds.set i (some (.lst .o (xs ++ ys)))):=by
 obtain ⟨Hf,fp,O,F⟩:=S
 cases O with
 | brw z h r=>cases z
 | cons h r =>
  rename_i f0 f1
  cases h with
  | fz _ z=>cases z
  | lst hb RB =>
   rename_i b zs fb
   obtain ⟨p,fpx,fpr,e',q,pm,w⟩:=r.write n (List.nodup_append.mp F.nd).2.1 e rfl
   cases q with
   | lst q R =>
    rename_i us
    have pm':(b::fb ++ f1).Perm (p::(fpx ++ fb) ++ (b::fpr)):=by
     refine (List.Perm.append_left (b::fb) pm).trans ?_
     simp only [List.cons_append]
     have a1:(b::(fb ++ p::(fpx ++ fpr))).Perm (b::(p::(fb ++ (fpx ++ fpr)))):=List.Perm.cons b List.perm_middle
     refine a1.trans ((List.Perm.swap p b _).trans (List.Perm.cons p ?_))
     have a2:(fb ++ (fpx ++ fpr)).Perm (fpx ++ fb ++ fpr):=by
      rw [<- List.append_assoc]
      exact List.Perm.append_right _ List.perm_append_comm
     exact (List.Perm.cons b a2).trans List.perm_middle.symm
    have F':=F.perm pm'.symm
    have hpn:p ∉ (fpx ++ fb) ++ (b::fpr):=by
     have:=F'.nd
     rw [List.cons_append] at this
     exact (List.nodup_cons.mp this).1
    have hp:p ∈ b::fb ++ f1:=pm'.symm.subset (by simp)
    have kp:∀ (l:List Addr),(∀ a ∈ l,a ∈ (fpx ++ fb) ++ (b::fpr))->∀ a o,a ∈ l->H a=some o->upd H p (.lst (us ++ zs)) a=some o:=fun l hl a o m z =>
     fU (fun y=>by subst y;exact hpn (hl a m)) z
    have R':RepOs Hf (upd H p (.lst (us ++ zs))) (fpx ++ fb) (us ++ zs) (xs ++ ys):=
     (R.keep (Same.refl _) (kp fpx fun a m=>by simp [m])).append (RB.keep (Same.refl _) (kp fb fun a m=>by simp [m]))
    obtain ⟨fp',O',p'⟩:=w (upd H p (.lst (us ++ zs))) (.lst .o (xs ++ ys)) (p::(fpx ++ fb)) (kp fpr fun a m=>by simp [m]) (.lst bC R')
    have sl:(p::(fpx ++ fb) ++ fpr).Sublist (p::(fpx ++ fb) ++ (b::fpr)):=List.Sublist.append_left (List.sublist_cons_self b fpr) _
    have F2:=(F'.subl sl).perm p'
    exact ⟨p,us,b,zs,rfl,e',q,R.length,hb,RB.length,Hf,fp',O',F.wrote hp F2.nd F2.own⟩
section
variable {X:Cx} {Ex:Value->Prop} {H0:Hp} {e:Expr} {f:ae->Res D} {pos:Pos}
theorem um {i:Nat} {x:Str} {p1 p2 p3:Pos} (hv:PV X (.Name x p1) i) (he:FE X H0 Ex e f)
    (hbase:attributeBase (.Name x p1) "extend" X.env (eval (.Name x p1) X.env)=eval (.Name x p1) X.env:=by rfl)
    (hfew:((backTo p3 (starEach [e] X.env)).all (fun x=>!x.1) && (backToKw p3 (keywordEach [] X.env)).all (fun x=>x.1.isSome) && decide (([e]:List Expr).length + ([]:List Keyword).length + (if ([]:List Keyword).isEmpty then 0 else 1) < 30))=true:=by rfl)
    (hline:(p2.endLine == p3.line)=true:=by rfl) (hplain:(backTo p3 (starEach [] X.env)).any (·.1)=false:=by rfl) (hs1:starEach [e] X.env=(false,eval e X.env)::starEach [] X.env:=by rfl)
    (hsw:swapsWith (.Call (.Attribute (.Name x p1) "extend" p2) [e] [] p3) none pos.line X.env=pure false:=by rfl) :
    FS X H0 Ex (.Expr (.Call (.Attribute (.Name x p1) "extend" p2) [e] [] p3) pos) (iy i f):=by
 refine ⟨PS.pre (kR (kW PySem.F.plainAttrs_list PySem.F.slot_list_extend PySem.F.type_list_extend tz hv.go (dw he.go eG hs1) hbase hfew hline hs1 hplain) hsw) ?_⟩
 rintro En σ H ⟨Hs,ρ,⟨S,n⟩,p⟩
 unfold iy at p
 split at p
 ·rename_i xs hx
  obtain ⟨q,us,hq,hH,hl⟩:=S.recv hx
  refine ⟨.ref q,hq,.inl ⟨rfl,us,SqL.of hH⟩,Hs,ρ,[],S,(PostS.aft p).imp fun d _ p1 v H1 S1=>?_⟩
  split at p1
  ·rename_i ys _
   split at p1
   ·exact p1.elim
   ·rename_i hc
    have S1:SR Hs H0 H1 (some v::σ) (some (.lst .o ys)::ρ):=S1
    obtain ⟨q',us',b,zs,rfl,hq',hH',hl',hb,hzl,S2⟩:=S1.extend n hx
    rw [hq] at hq'
    cases hq'
    exact ⟨q,b,us',zs,rfl,rfl,hH',hb,by rw [hl',hzl];omega,p1 σ _ ⟨S2,n.set fun d' z=>by cases z;exact fun y=>nomatch y⟩⟩
  ·exact p1.elim
 ·exact p.elim
end
noncomputable def dd1 (acc:List Int) (k:Int):List Int:=if acc.any (· == k) then acc else acc ++ [k]
noncomputable def lg (f:ae->Res D):ae->Res D:=fun ρ=>f ρ >>= fun d=>match d with
 | .lst _ xs=>match dA xs with
  | some ns=>if ns.length <= 1000 then .ok (.int ((ns.foldl dd1 []).length:Nat)) else .bad
  | none=>.bad
 | _=>.bad
noncomputable def l4:List D->Option (List Key)
 | []=>some []
 | .int i::r=>(l4 r).map (Sum.inl i::·)
 | _=>none
noncomputable def jd (ks:List (List Key × D)) (k:List Key):Bool:=ks.any fun q=>decide (q.1=k)
noncomputable def jP (ks:List (List Key × D)) (k:List Key) (d:D):List (List Key × D):=if jd ks k=true then ks.map (fun q=>if q.1=k then (q.1,d) else q) else ks ++ [(k,d)]
noncomputable def ku:D->D->Res D:=fun x y=>match x,y with
 | .tup es,.dic _ ks=>match l4 es with
  | some k=>.ok (.bl (jd ks k))
  | none=>.bad
 | _,_=>.bad
noncomputable def sd:ae->Res D:=fun _=>.ok (.dic .o [])
noncomputable def mD (i:Nat) (fk:ae->Res D) (cd:D):ae->FOut:=fun ρ=>match ρ[i]? with
 | some (some (.dic .o ks))=>aft (fk ρ) fun d=>match d with
  | .tup es=>match l4 es with
   | some k=>if sizeLine <= ks.length then .bad else .nx (ρ.set i (some (.dic .o (jP ks k cd))))
   | none=>.bad
  | _=>.bad
 | _=>.bad
theorem qE (ns:List Int):PyProof.Rows.firstMet (fun i=>ns.getD i 0) ns.length=ns.foldl dd1 []:=by
 unfold PyProof.Rows.firstMet
 have:(List.range ns.length).map (fun i=>ns.getD i 0)=ns:=by
  apply List.ext_getElem
  ·simp
  ·intro i h1 h2;simp [List.getD,List.getElem?_eq_getElem h2]
 rw [this]
 rfl
section
variable {X:Cx} {Ex:Value->Prop} {H0:Hp} {e:Expr} {f fk:ae->Res D} {pos:Pos}
theorem uo (hc:X.calm=true):CallR X (.type "set") (fun us H Q=>∃ (a:Addr) (ns:List Int),us=[.ref a]/\SqL X.K H a (ns.map V.int)/\ns.length <= 1000/\∀ p,H p=none->Q (.ref p) (upd H p (.set (fun k'=>(ns.foldl dd1 []).any (· == k')) (ns.foldl dd1 []).length))):=by
 intro pins s σ H xs us Q I r h
 obtain ⟨a,ns,rfl,hq,hl1,q⟩:=h
 cases r with
 | cons r1 r2 =>
  cases r2
  cases r1
  obtain ⟨its,w,pl,hz⟩:=I.list hq
  have hl:=w.length
  rw [List.length_map] at hl
  have hsz:its.toArray.size=ns.length:=by rw [List.size_toArray,<- hl]
  refine call_set_list (ns:=ns) (I.ok.hd hc) pl.isList (by simpa using jB w) (by rw [hsz];show ns.length + 1 < 4096;omega) fun h' tk st kp=>?_
  rw [hsz,qE] at st
  have hfresh:H s.heap.objs.size=none:=I.hok.fresh (Nat.le_refl _)
  exact ⟨.ref s.heap.objs.size,_,I.laid (t':=tk) (fun b o e=>kp b o (Heap.lt_size e) e) (Nat.le_refl _) (show ObjOk X.prog X.w _ _ _ (.set _ _) from st),rfl,q _ hfresh⟩
theorem qF:CallR X (.builtin "len") (fun us H Q=>∃ (a:Addr) (S:Int->Bool) (n:Nat),us=[.ref a]/\H a=some (.set S n)/\Q (.int (n:Nat)) H):=by
 intro pins s σ H xs us Q I r h
 obtain ⟨a,S,n,rfl,ha,q⟩:=h
 cases r with
 | cons r1 r2 =>
  cases r2
  cases r1
  obtain ⟨o,es,ep,t,ho,hex,hd,_,_,hsc,hf,hn⟩:=(show ObjOk X.prog X.w H s.heap a (.set S n) from I.hok a _ ha)
  have hsc:es.size < 4096:=hsc
  refine call_len_set ho hex hd hf (by omega) ?_
  rw [hn]
  exact ⟨.int n,H,I.tok _,⟨_,rfl⟩,q⟩
theorem uq {p p':Pos} {pos':Pos} (hc:X.calm=true) (he:FE X H0 Ex e f) (hg:Gl X "len") (hm:X.mg "len" = none) (hg':Gl X "set") (hm':X.mg "set" = none)
    (h1:starEach [e] X.env=(false,eval e X.env)::starEach [] X.env:=by rfl) (h2:(backTo pos' (starEach [] X.env)).any (·.1)=false:=by rfl)
    (h3:starEach [.Call (.Name "set" p') [e] [] pos'] X.env=(false,eval (.Call (.Name "set" p') [e] [] pos') X.env)::starEach [] X.env:=by rfl) (h4:(backTo pos (starEach [] X.env)).any (·.1)=false:=by rfl) :
    FE X H0 Ex (.Call (.Name "len" p) [.Call (.Name "set" p') [e] [] pos'] [] pos) (lg f):=by
 refine ⟨PE.pre (lR qF hg hm (by decide +kernel) (dw (kb (uo hc) hg' hm' (by decide +kernel) (dw he.go eG h1) (by decide) (by decide) h1 h2) eG h3) (by decide) (by decide) h3 h4) ?_⟩
 rintro σ H Q ⟨Hs,ρ,ts,S,p⟩
 refine ⟨Hs,ρ,ts,S,(Post.bind p).imp fun d1 _ p1 v1 H1 S1=>?_⟩
 split at p1
 ·rename_i t xs _
  split at p1
  ·rename_i ns hns
   split at p1
   ·rename_i hl
    have S1:SR Hs H0 H1 (some v1::(tvs ts ++ σ)) (some (.lst t xs)::(tds ts ++ ρ)):=S1
    have hh:=S1.head
    cases hh with
    | lst q1 R =>
     refine ⟨_,ns,rfl,?_,hl,fun q hq=>⟨q,_,_,rfl,bC,p1 _ _ ?_⟩⟩
     ·rw [<- jO R hns];exact SqL.of q1
     ·refine SR.int (SR.grow S1.drop fun b o z=>?_)
      rw [aZ (fun y=>by subst y;rw [hq] at z;cases z)]
      exact z
   ·exact p1.elim
  ·exact p1.elim
 ·exact p1.elim
end
theorem l5 {H:Hp}:∀ {us:List V} {es:List D} {k:List Key},Reps H us es->l4 es=some k->us=k.map kV
 | _,_,_,.nil,h=>by simp [l4] at h;subst h;rfl
 | _,_,k,.cons (d:=d) a r,h=>by
  cases d with
  | int b =>
   cases a
   unfold l4 at h
   cases e:l4 _ with
   | none=>rw [e] at h;cases h
   | some cs=>rw [e] at h;cases h;rw [l5 r e];rfl
  | _=>cases h
theorem jQ {H:Hp}:∀ {kvs:List (List Key × V)} {ks:List (List Key × D)} (k:List Key),RepK H kvs ks->(ia kvs k).isSome=jd ks k/\(kvs.any fun q=>decide (q.1=k))=jd ks k/\kvs.length=ks.length
 | _,_,k,.nil=>⟨rfl,rfl,rfl⟩
 | _,_,k,.cons (k:=k') h r=>by
  obtain ⟨h1,h2,h3⟩:=jQ k r
  refine ⟨?_,?_,by simp [h3]⟩
  ·by_cases e:k'=k
   ·rw [jC (show _=k from e)]
    simp [jd,e]
   ·rw [jD (show ¬ _=k from e),h1]
    simp [jd,e]
  ·simp only [List.any_cons,jd] at h2 ⊢
   rw [h2]
theorem pN {H:Hp} (k:List Key) {v:V} {d:D} (hv:Rep H v d):∀ {kvs:List (List Key × V)} {ks:List (List Key × D)},RepK H kvs ks->RepK H (kvs.map fun q=>if q.1=k then (q.1,v) else q) (ks.map fun q=>if q.1=k then (q.1,d) else q)
 | _,_,.nil=>.nil
 | _,_,.cons (k:=k') (v:=v') (d:=d') h r=>by
  have ih:=pN k hv r
  rw [List.map_cons,List.map_cons]
  by_cases e:k'=k
  ·rw [if_pos (show (k',v').1=k from e),if_pos (show (k',d').1=k from e)];exact .cons hv ih
  ·rw [if_neg (show ¬ (k',v').1=k from e),if_neg (show ¬ (k',d').1=k from e)];exact .cons h ih
theorem pO {H:Hp} (k:List Key) {v:V} {d:D} (hv:Rep H v d):∀ {kvs:List (List Key × V)} {ks:List (List Key × D)},RepK H kvs ks->RepK H (kvs ++ [(k,v)]) (ks ++ [(k,d)])
 | _,_,.nil=>.cons hv .nil
 | _,_,.cons h r=>.cons h (pO k hv r)
theorem vI {H:Hp} {kvs:List (List Key × V)} {ks:List (List Key × D)} (k:List Key) {v:V} {d:D} (hv:Rep H v d) (r:RepK H kvs ks):RepK H (fT kvs k v) (jP ks k d):=by
 unfold fT jP
 rw [(jQ k r).2.1]
 split
 ·exact pN k hv r
 ·exact pO k hv r
theorem SR.laidD {Hs H0 H Hf:Hp} {fp:List Addr} {vs:List (Option V)} {ds:List (Option D)} (O:Own Hf H fp vs ds) (F:Fine Hs H0 Hf H fp) {p:Addr} (hp:H p=none) :
    SR Hs H0 (upd H p (.dT [])) (some (.ref p)::vs) (some (.dic .o [])::ds):=by
 obtain ⟨hf,h0⟩:=F.fresh hp
 have s:Same H (upd H p (.dT [])):=fun b o e=>by rw [aZ (bB e hp)];exact e
 refine ⟨Hf,[p] ++ fp,.cons (.dic bC .nil) (O.mono (Same.refl _) s),?_,?_,F.fh.trans s,F.zh.trans s,F.sf,F.new⟩
 ·refine List.nodup_cons.mpr ⟨fun m=>?_,F.nd⟩
  obtain ⟨o,e⟩:=O.there p m;rw [hp] at e;cases e
 ·intro a m
  rcases List.mem_cons.mp m with e | m
  ·subst e;exact ⟨hf,h0⟩
  ·exact F.own a m
theorem SR.dput {Hs H0 H:Hp} {vs:List (Option V)} {ds:List (Option D)} {v:V} {d:D} (S:SR Hs H0 H vs ds) (hrep:∀ H,Rep H v d) (n:noB ds) {i:Nat} {ks:List (List Key × D)} (k:List Key) (e:ds[i]?=some (some (.dic .o ks))) :
    ∃ p kvs,vs[i]?=some (some (.ref p))/\H p=some (.dT kvs)/\kvs.length=ks.length/\SR Hs H0 (upd H p (.dT (fT kvs k v))) vs (ds.set i (some (.dic .o (jP ks k d)))):=by
 obtain ⟨Hf,fp,r,F⟩:=S
 obtain ⟨p,fpx,fpr,e',q,pm,w⟩:=r.write n F.nd e rfl
 cases q with
 | dic q R =>
  rename_i kvs
  have F':=F.perm pm.symm
  have hpn:p ∉ fpr:=by
   have:=F'.nd
   rw [List.cons_append] at this
   exact fun m=>(List.nodup_cons.mp this).1 (by simpa using m)
  have hp:p ∈ fp:=pm.symm.subset (by simp)
  obtain ⟨fp',O',p'⟩:=w (upd H p (.dT (fT kvs k v))) (.dic .o (jP ks k d)) [p] (fun a o m z=>fU (fun y=>by subst y;exact hpn m) z) (.dic bC (vI k (hrep Hf) R))
  have F2:=F'.perm (show fp'.Perm ([p] ++ [] ++ fpr) by simpa using p')
  exact ⟨p,kvs,e',q,(jQ k R).2.2,Hf,fp',O',F.wrote hp F2.nd F2.own⟩
section
variable {X:Cx} {Ex:Value->Prop} {H0:Hp} {e k:Expr} {f fk:ae->Res D} {pos:Pos}
theorem xt:FE X H0 Ex (.Dict [] [] pos) sd:=by
 refine ⟨PE.pre vn ?_⟩
 rintro σ H Q ⟨Hs,ρ,ts,S,p⟩
 intro q hq
 obtain ⟨Hf,fp,O,F⟩:=S
 exact p _ _ (SR.laidD O F hq)
theorem y9 (hu:X.A.units + 1 < cLine):OpR X (compareOp .In) (fun x y H Q=>∃ a o,y=.ref a/\DGet H a x o/\Q (.bl o.isSome) H):=by
 intro pins s σ H x y v u Q I rx ry h
 obtain ⟨a,o,rfl,g,q⟩:=h
 cases ry
 exact CJ hu I g rx fun s' I'=>⟨.bl _,H,I',rfl,q⟩
theorem vJ:∀ x y,noX (ku x y)=true:=by
 intro x y
 unfold ku
 split
 ·split <;> rfl
 ·rfl
theorem za (hu:X.A.units + 4 < cLine):FOp X (compareOp .In) ku:=by
 refine ⟨OpR.pre (y9 (by omega)) ?_⟩
 rintro x y H Q ⟨Hs,H0,vs,ds,d1,d2,d,S,e,kq⟩
 unfold ku at e
 split at e
 ·rename_i es t ks
  split at e
  ·rename_i kk hk
   cases e
   have h2:=S.head
   have h1:=S.drop.head
   cases h2 with
   | dic q2 R2 =>
    cases h1 with
    | tup q1 R1 =>
     rename_i kvs _ us
     have e1:=l5 R1 hk
     subst e1
     refine ⟨_,_,rfl,DGet.t q2 q1,?_⟩
     rw [(jQ kk R2).1]
     exact kq _ H S.drop.drop.bl
  ·cases e
 ·cases e
theorem vK (hu:X.A.units + 1 < cLine):uZ X (fun o i v H Q=>∃ a H',o=.ref a/\DPut H a i v H'/\Q H'):=by
 intro pins s σ H o i v ov iv u Q I ro ri rv h
 obtain ⟨a,H',rfl,g,q⟩:=h
 cases ro
 exact tD hu I g ri rv fun s' I'=>⟨H',I',q⟩
theorem xu {i:Nat} {x:Str} {p1 p2:Pos} {cv:V} {cd:D} (hu:X.A.units + 4 < cLine) (hv:PV X (.Name x p1) i) (he:PE X e (tC cv)) (hrep:∀ H,Rep H cv cd) (hk:FE X H0 Ex k fk)
    (ha:∀ v,assign (.Subscript (.Name x p1) k p2) X.env v=(do
     let ov <- holding [v] (eval (.Name x p1) X.env)
     let iv <- holding [v,ov] (eval k X.env)
     standAt p2
     holding [v,ov,iv] (setItem ov iv v)
     release [v,ov,iv] []):=by intro _;rfl)
    (hs:swapsWithSole [.Subscript (.Name x p1) k p2] e pos.line X.env=pure false:=by rfl) (hw:swappedStores [.Subscript (.Name x p1) k p2] e X.env=pure none:=by rfl)
    (h1:(assignEach [.Subscript (.Name x p1) k p2] X.env).map (·.2)=[assign (.Subscript (.Name x p1) k p2) X.env]:=by rfl) :
    FS X H0 Ex (.Assign [.Subscript (.Name x p1) k p2] e pos) (mD i fk cd):=by
 refine ⟨PS.pre (sU he (sT hv.go hk.go (vK (by omega)) ha) hs hw h1) ?_⟩
 rintro En σ H ⟨Hs,ρ,⟨S,n⟩,p⟩
 unfold mD at p
 split at p
 ·rename_i ks hx
  obtain ⟨v0,hv0,S0⟩:=S.get hx
  have hh:=S0.head
  cases hh with
  | dic q _ =>
   refine ⟨_,hv0,Hs,ρ,[],S,(PostS.aft p).imp fun d _ p1 v H1 S1=>?_⟩
   split at p1
   ·rename_i es _
    split at p1
    ·rename_i kk hkk
     split at p1
     ·exact p1.elim
     ·rename_i hc
      have S1:SR Hs H0 H1 (some v::σ) (some (.tup es)::ρ):=S1
      have h3:=S1.head
      cases h3 with
      | tup q3 R3 =>
       have e3:=l5 R3 hkk
       subst e3
       obtain ⟨p',kvs,hp',hH',hl',S2⟩:=S1.drop.dput hrep n kk hx
       rw [hv0] at hp'
       cases hp'
       exact ⟨_,_,rfl,DPut.t hH' q3 (by rw [hl'];omega),p1 σ _ ⟨S2,n.set fun d' z=>by cases z;exact fun y=>nomatch y⟩⟩
    ·exact p1.elim
   ·exact p1.elim
 ·exact p.elim
end
noncomputable def mE:D->Option (Int × Int)
 | .tup [.int a,.int b]=>some (a,b)
 | _=>none
noncomputable def io:List D->Option (List (Int × Int))
 | []=>some []
 | d::r=>match mE d with
  | some q=>(io r).map (q::·)
  | none=>none
noncomputable def iz (fo f:ae->Res D):ae->Res D:=fun ρ=>fo ρ >>= fun d=>match d with
 | .lst .f xs=>match io xs with
  | some L=>f ρ >>= fun e=>match mE e with
   | some q=>if q ∈ L/\L.length <= 1000 then .ok (.int (L.idxOf q:Nat)) else .bad
   | none=>.bad
  | none=>.bad
 | _=>.bad
theorem ot {d:D} {q:Int × Int} (h:mE d=some q):d=.tup [.int q.1,.int q.2]:=by
 unfold mE at h
 split at h
 ·cases h;rfl
 ·cases h
theorem ou:∀ {ys:List D} {L:List (Int × Int)},io ys=some L->L.length=ys.length/\∀ (j:Nat) (q:Int × Int),L[j]?=some q->ys[j]?=some (D.tup [D.int q.1,D.int q.2])
 | [],L,h=>by cases h;exact ⟨rfl,fun j q z=>by simp at z⟩
 | d::r,L,h=>by
  unfold io at h
  split at h
  ·rename_i q hq
   cases hr:io r with
   | none=>rw [hr] at h;cases h
   | some M =>
    rw [hr] at h
    cases h
    obtain ⟨h1,h2⟩:=ou hr
    refine ⟨by simp [h1],fun j z hz=>?_⟩
    cases j with
    | zero =>
     have:q=z:=by simpa using hz
     subst this
     rw [ot hq];rfl
    | succ j=>simpa using h2 j z (by simpa using hz)
  ·cases h
theorem ut:∀ (L:List (Int × Int)) (q:Int × Int) (j:Nat),j < L.idxOf q->¬ L[j]?=some q
 | [],_,_,h=>by simp at h
 | x::L,q,j,h=>by
  rw [List.idxOf_cons] at h
  by_cases hx:x=q
  ·rw [show (x == q)=true by simpa using hx] at h;simp at h
  ·rw [show (x == q)=false by simpa using hx] at h
   cases j with
   | zero=>simpa using hx
   | succ j =>
    have h:j + 1 < L.idxOf q + 1:=h
    simpa using ut L q j (by omega)
theorem vL {H:Hp} {u u':V} {y:Value} {a b c d:Int} (h:Rep H u (.tup [.int a,.int b])) (h':Rep H u' (.tup [.int c,.int d])) (r:RelV u y) (r':RelV u' y):a=c/\b=d:=by
 cases h with
 | tup e R =>
  cases h' with
  | tup e' R' =>
   cases r
   cases r'
   rw [e] at e'
   cases e'
   cases R with
   | cons x R=>cases R with
    | cons y R=>cases x;cases y;cases R' with
     | cons x R'=>cases R' with
      | cons y R'=>cases x;cases y;exact ⟨rfl,rfl⟩
section
variable {X:Cx} {Ex:Value->Prop} {H0:Hp} {e:Expr} {f:ae->Res D} {pos:Pos}
theorem uu (hu:X.A.units + 4 < cLine):MtR X "list.index" (fun x vs H Q=>∃ (l:Addr) (us:List V) (ys:List D) (L:List (Int × Int)) (t:V) (q:Int × Int),x=.ref l/\vs=[t]/\H l=some (.lst us)/\Reps H us ys/\io ys=some L/\Rep H t (.tup [.int q.1,.int q.2])/\q ∈ L/\L.length <= 1000/\Q (.int (L.idxOf q:Nat)) H):=by
 classical
 intro pins s σ H x vs v us Q I rx rv h
 obtain ⟨l,ws,ys,L,t,q,rfl,rfl,hq,R,hL,rt,hk,hl,k⟩:=h
 cases rx
 cases rv with
 | cons ru r2 =>
  rename_i u1 u2
  cases r2
  obtain ⟨its,w,pl,_⟩:=I.list (SqL.of hq)
  obtain ⟨⟨cls,dd,data,sl⟩,ho,hc,n,hd⟩:=id pl.isList
  simp only at hc hd
  subst hc hd
  obtain ⟨hLl,hLg⟩:=ou hL
  have hlen:L.length=its.length:=by rw [hLl,<- R.length,w.length]
  have hj:L.idxOf q < L.length:=List.idxOf_lt_length_iff.mpr hk
  have at_:∀ j (hj:j < its.length),∃ z w1,L[j]?=some z/\RelV w1 its[j]/\Rep H w1 (.tup [.int z.1,.int z.2]):=by
   intro j hj
   have hz:L[j]?=some L[j]:=List.getElem?_eq_getElem (by omega)
   obtain ⟨v1,hv1,rp1⟩:=R.get (hLg j _ hz)
   obtain ⟨u1,hu1,rl1⟩:=w.get hv1
   have g1:its[j]=u1:=by rw [List.getElem?_eq_getElem hj] at hu1;exact Option.some.inj hu1
   exact ⟨_,v1,hz,g1 ▸ rl1,rp1⟩
  have he:∀ j (hj:j < its.length),decide (∃ i,∃ hi:i < its.length,its[i]=its[j]/\L[i]?=some q)=decide (L[j]?=some q):=by
   intro j hj
   refine decide_eq_decide.mpr ⟨?_,fun z=>⟨j,hj,rfl,z⟩⟩
   rintro ⟨i,hi,e1,e2⟩
   obtain ⟨z,w1,a1,a2,a3⟩:=at_ i hi
   obtain ⟨z',w2,b1,b2,b3⟩:=at_ j hj
   rw [e2] at a1
   cases a1
   rw [e1] at a2
   obtain ⟨c1,c2⟩:=vL a3 b3 a2 b2
   rw [b1,Prod.ext c1 c2]
  refine call_meets PySem.F.slot_list_index ⟨_,ho,rfl⟩ PySem.F.entry_list_index (PySem.F.args_list_index_2 _ _)
   (SeqAt.list_indexAt l its.toArray n dd sl u1 (fun y=>decide (∃ i,∃ hi:i < its.length,its[i]=y/\L[i]?=some q)) (L.idxOf q) (by simpa [hlen] using hj) (by omega) ?_ ?_) ⟨ho,?_,⟨.int _,H,I.tok _,⟨_,rfl⟩,k⟩⟩
  ·show decide (∃ i,∃ hi:i < its.length,its[i]=its[L.idxOf q]/\L[i]?=some q)=true
   rw [he (L.idxOf q) (by omega)]
   rw [decide_eq_true_eq,List.getElem?_eq_getElem hj]
   simp
  ·intro j hjs hlt
   show decide (∃ i,∃ hi:i < its.length,its[i]=its[j]/\L[i]?=some q)=false
   rw [he j (by simpa using hjs)]
   rw [decide_eq_false_iff_not]
   exact ut L q j hlt
  ·intro y hy
   have hy:y ∈ its:=by simpa using hy
   obtain ⟨j,hj,rfl⟩:=List.getElem_of_mem hy
   rw [he j hj]
   obtain ⟨z,w1,a1,a2,a3⟩:=at_ j hj
   have ed:a0 3 (.tup [.int z.1,.int z.2]) (.tup [.int q.1,.int q.2])=some (decide (L[j]?=some q)):=by
    rw [a1]
    simp [a0,dU,Prod.ext_iff]
   exact (o6 I 3 _ (by first | exact (show X.A.units + 1 + 3 < cLine by omega) | omega) a3 rt a2 ru ed).1
theorem uw {o:Expr} {fo:ae->Res D} {apos cpos:Pos} (hu:X.A.units + 4 < cLine) (ho:FE X H0 Ex o fo) (he:FE X H0 Ex e f)
    (hbase:attributeBase o "index" X.env (eval o X.env)=eval o X.env:=by rfl)
    (hfew:((backTo cpos (starEach [e] X.env)).all (fun x=>!x.1) && (backToKw cpos (keywordEach [] X.env)).all (fun x=>x.1.isSome) && decide (([e]:List Expr).length + ([]:List Keyword).length + (if ([]:List Keyword).isEmpty then 0 else 1) < 30))=true:=by rfl)
    (hline:(apos.endLine == cpos.line)=true:=by rfl) (hplain:(backTo cpos (starEach [] X.env)).any (·.1)=false:=by rfl) (hs1:starEach [e] X.env=(false,eval e X.env)::starEach [] X.env:=by rfl) :
    FE X H0 Ex (.Call (.Attribute o "index" apos) [e] [] cpos) (iz fo f):=by
 refine ⟨PE.pre (kW PySem.F.plainAttrs_list PySem.F.slot_list_index PySem.F.type_list_index (uu hu) ho.go (dw he.go eG hs1) hbase hfew hline hs1 hplain) ?_⟩
 rintro σ H Q ⟨Hs,ρ,ts,S,p⟩
 refine ⟨Hs,ρ,ts,S,(Post.bind p).imp fun d1 _ p1 v1 H1 S1=>?_⟩
 split at p1
 ·rename_i xs _
  split at p1
  ·rename_i L hL
   have S1:SR Hs H0 H1 (some v1::(tvs ts ++ σ)) (some (.lst .f xs)::(tds ts ++ ρ)):=S1
   have hh:=S1.head
   cases hh with
   | lst q1 R =>
    rename_i a us _
    refine ⟨.inl ⟨rfl,us,SqL.of q1⟩,Hs,ρ,(.ref a,.lst .f xs)::ts,S1,(Post.bind p1).imp fun d2 _ p2 v2 H2 S2=>?_⟩
    split at p2
    ·rename_i q hq
     split at p2
     ·rename_i hc
      have S2:SR Hs H0 H2 (some v2::some (.ref a)::(tvs ts ++ σ)) (some d2::some (.lst .f xs)::(tds ts ++ ρ)):=S2
      have h4:=S2.head
      rw [ot hq] at h4
      have h3:=S2.drop.head
      cases h3 with
      | lst q3 R3 =>
       exact ⟨a,_,xs,L,v2,q,rfl,rfl,q3,R3,hL,h4,hc.1,hc.2,p2 _ H2 S2.drop.drop.int⟩
     ·exact p2.elim
    ·exact p2.elim
  ·exact p1.elim
 ·exact p1.elim
end
end Mi
namespace Lw
open PySem PySem.Spec L2 Mi
open PyProof.Rows hiding St
def top (i:Nat):Stmt:=PySem.Challenge.pw_lonewalks_k09_tails_exchanged.main.body.getD i (.Pass ⟨0,0,0,0⟩)
def jR (i j:Nat):Stmt:=match top i with
 | .ClassDef _ _ _ b _ _ _ _ _ _ _=>b.getD j (.Pass ⟨0,0,0,0⟩)
 | _=>.Pass ⟨0,0,0,0⟩
structure Ads where
 BadCompany:Addr
 BadNet:Addr
 BadWalk:Addr
 Net:Addr
structure Bl (K:PySem.W.Frag) (mg:Str->Option Value) (a:Ads):Prop where
 b_all:mg "all" = none
 b_enumerate:mg "enumerate" = none
 b_int:mg "int" = none
 b_isinstance:mg "isinstance" = none
 b_len:mg "len" = none
 b_list:mg "list" = none
 b_max:mg "max" = none
 b_min:mg "min" = none
 b_range:mg "range" = none
 b_set:mg "set" = none
 b_sorted:mg "sorted" = none
 b_str:mg "str" = none
 b_zip:mg "zip" = none
 c_MOST_SIDE:∃ t,mg "MOST_SIDE" = some (.int 8 t)
 c_MOST_WALKERS:∃ t,mg "MOST_WALKERS" = some (.int 4 t)
 c_MOST_WEIGHT:∃ t,mg "MOST_WEIGHT" = some (.int 1000 t)
 k_list:KT K "list"
 k_str:KT K "str"
 x_BadCompany:XCls K mg "BadCompany" a.BadCompany
 x_BadNet:XCls K mg "BadNet" a.BadNet
 x_BadWalk:XCls K mg "BadWalk" a.BadWalk
 cl_Net:Cls K a.Net
 na_Net_columns:NoAttr K a.Net "columns"
 na_Net_ends:NoAttr K a.Net "ends"
 na_Net_right:NoAttr K a.Net "right"
 na_Net_rows:NoAttr K a.Net "rows"
 na_Net_starts:NoAttr K a.Net "starts"
 na_Net_up:NoAttr K a.Net "up"
variable {P:Program} {w:World} {K:PySem.W.Frag} {mg:Str->Option Value} {base:Heap} {a:Ads}
noncomputable def iL (a:Ads):ae->FOut:=
 (gIf (bh (ftB (bX (fun i j=>decide (i <= j)) (fun i j=>decide (i <= j)) (fC (.int 1)) (aa 0) (fC (.int 8))))) (fun _=>.exc (.ref a.BadNet)) aC)
noncomputable def dB (a:Ads):List D->Res D:=aN 1 (iL a)
theorem jZ:FnScope ["length"] ["length"] (aA (top 9)):=⟨rfl,rfl,rfl,by decide +kernel,rfl,by decide +kernel,by decide +kernel⟩
theorem oS (B:Bl K mg a) (U:Df K mg "check_side" (top 9) ["length"])  : Cal P w K mg base "check_side" 1 (dB a) 1:=by
 refine bx (k:=0) (N:=["length"]) U jZ fun f cdv A outer s H E Ex hE hr=>?_
 have sc:=jZ
 exact (ar (bt (gl (iJ fP fP ak (ad 0 (mv 0)) (nA rfl B.c_MOST_SIDE.choose_spec ⟨_,rfl⟩))) (ar (dg B.x_BadNet hE rfl)) aX))
noncomputable def ie (a:Ads):ae->FOut:=
 (ao (gIf (ft2 (eR true) (fCB aR (ac (aa 0) af)) (aa 1)) (fun _=>.exc (.ref a.BadNet)) aC)
 (bH (aJ (aa 0)) (av 3) (ao (gIf (ft2 (eR true) (fCB aR (ac (aa 3) af)) (aa 2)) (fun _=>.exc (.ref a.BadNet)) aC)
 (gIf (bh (ftB (fCB jc (ac (aL 1 [] (aJ (aa 3)) (av 0) a8 (bX (fun i j=>decide (i <= j)) (fun i j=>decide (i <= j)) (fC (.int 0)) (aa 0) (fC (.int 1000)))) af)))) (fun _=>.exc (.ref a.BadNet)) aC))))
noncomputable def dh (a:Ads):List D->Res D:=aN 4 (ie a)
theorem jm:FnScope ["lists", "count", "length", "weights"] ["lists", "count", "length"] (aA (top 10)):=⟨rfl,rfl,rfl,by decide +kernel,rfl,by decide +kernel,by decide +kernel⟩
theorem nG (B:Bl K mg a) (U:Df K mg "check_steps" (top 10) ["lists", "count", "length"])  : Cal P w K mg base "check_steps" 3 (dh a) 1:=by
 refine bx (k:=0) (N:=["lists", "count", "length", "weights"]) U jm fun f cdv A outer s H E Ex hE hr=>?_
 have sc:=jm
 exact (ah (bt (aT jh (fW _) (aQ bA ba rfl B.b_len (by decide +kernel) (ag (ad 0 (mv 0)) ai)) (ad 1 (mv 1)) (aO _)) (ar (dg B.x_BadNet hE rfl)) aX)
  (ar (cq db rfl (bT (ad 0 (mv 0))) (bg (i:=3) sc.nd rfl (.inl rfl)) (ah (bt (aT jh (fW _) (aQ bA ba rfl B.b_len (by decide +kernel) (ag (ad 3 (mv 3)) ai)) (ad 2 (mv 2)) (aO _)) (ar (dg B.x_BadNet hE rfl)) aX)
  (ar (bt (gl (kg (aQ (tW rfl) pJ rfl B.b_all (by decide +kernel) (ag (dI rfl (CompScope.of (own:=["weight"]) (cap:=[]) rfl (by decide +kernel) rfl rfl (by decide +kernel)) (bT (ad 3 (mv 3))) (fun C cells s0 H0 ex pn hN=>⟨(bg (i:=0) hN rfl (by first | exact Or.inl rfl | exact Or.inr rfl)),cF,(lW fP fP ak (ad 0 (mv 0)) (nA rfl B.c_MOST_WEIGHT.choose_spec ⟨_,rfl⟩))⟩)) ai)))) (ar (dg B.x_BadNet hE rfl)) aX))))))
noncomputable def gG (a:Ads):ae->FOut:=
 (ao (gIf (bh (ftB (bX (fun i j=>decide (i <= j)) (fun i j=>decide (i <= j)) (fC (.int 1)) (fCB aR (ac (aa 0) af)) (fC (.int 4))))) (fun _=>.exc (.ref a.BadNet)) aC)
 (ao (aq 2 (fFz (f1 jG (fC (.int 1)))))
 (bH (aJ (aa 0)) (av 3) (ao (gIf (bh (ftB (bX (fun i j=>decide (i < j)) (fun i j=>decide (i < j)) (aa 2) (aa 3) (aa 1)))) (fun _=>.exc (.ref a.BadNet)) aC)
 (aq 2 (fFz (aa 3)))))))
noncomputable def cT (a:Ads):List D->Res D:=aN 4 (gG a)
theorem i0:FnScope ["chosen", "rows", "last", "row"] ["chosen", "rows"] (aA (top 11)):=⟨rfl,rfl,rfl,by decide +kernel,rfl,by decide +kernel,by decide +kernel⟩
theorem mF (B:Bl K mg a) (U:Df K mg "check_border" (top 11) ["chosen", "rows"])  : Cal P w K mg base "check_border" 2 (cT a) 1:=by
 refine bx (k:=0) (N:=["chosen", "rows", "last", "row"]) U i0 fun f cdv A outer s H E Ex hE hr=>?_
 have sc:=i0
 exact (ah (bt (gl (iJ fP fP ak (aQ bA ba rfl B.b_len (by decide +kernel) (ag (ad 0 (mv 0)) ai)) (nA rfl B.c_MOST_WALKERS.choose_spec ⟨_,rfl⟩))) (ar (dg B.x_BadNet hE rfl)) aX)
  (ah (aG (i:=2) sc.nd rfl (.inl rfl) (a9 (pC ak)))
  (ar (cq db rfl (bT (ad 0 (mv 0))) (bg (i:=3) sc.nd rfl (.inl rfl)) (ah (bt (gl (iJ kS kS (ad 2 (mv 2)) (ad 3 (mv 3)) (ad 1 (mv 1)))) (ar (dg B.x_BadNet hE rfl)) aX)
  (ar (aG (i:=2) sc.nd rfl (.inl rfl) (a9 (ad 3 (mv 3))))))))))
noncomputable def se (a:Ads):ae->FOut:=
 (ao (ej (au 1 (dB a) (ac (fCB aR (ac (aa 1) af)) af)))
 (ao (aq 5 (fFz (fCB aR (ac (aa 1) af))))
 (ao (aq 6 (fFz (f2 aP (fCB aR (ac (f2 dIx (aa 1) (fC (.int 0))) af)) (fC (.int 1)))))
 (ao (ej (au 1 (dB a) (ac (aa 6) af)))
 (ao (ej (au 3 (dh a) (ac (aa 1) (ac (aa 5) (ac (f2 dR (aa 6) (fC (.int 1))) af)))))
 (ao (ej (au 3 (dh a) (ac (aa 2) (ac (f2 dR (aa 5) (fC (.int 1))) (ac (aa 6) af)))))
 (ao (ej (au 2 (cT a) (ac (aa 3) (ac (aa 5) af))))
 (ao (ej (au 2 (cT a) (ac (aa 4) (ac (aa 5) af))))
 (ao (gIf (ft2 (eR true) (fCB aR (ac (aa 3) af)) (fCB aR (ac (aa 4) af))) (fun _=>.exc (.ref a.BadNet)) aC)
 (ao (fJ 0 a.Net "right" (aL 1 [] (aJ (aa 1)) (av 0) a8 (fCB bz (ac (aa 0) af))))
 (ao (fJ 0 a.Net "up" (aL 1 [] (aJ (aa 2)) (av 0) a8 (fCB bz (ac (aa 0) af))))
 (ao (fJ 0 a.Net "starts" (fCB bz (ac (aa 3) af)))
 (ao (fJ 0 a.Net "ends" (fCB bz (ac (aa 4) af)))
 (ao (fJ 0 a.Net "columns" (aa 6))
 (fJ 0 a.Net "rows" (aa 5))))))))))))))))
noncomputable def mG (a:Ads):Addr->List D->Res (List (Str × D)):=dM a.Net 7 (se a)
theorem ux:FnScope ["self", "right", "up", "starts", "ends", "rows", "columns"] ["self", "right", "up", "starts", "ends"] (aA (jR 12 0)):=⟨rfl,rfl,rfl,by decide +kernel,rfl,by decide +kernel,by decide +kernel⟩
theorem zb (B:Bl K mg a) (U:∃ f fd,Fun K "__init__" "Net.__init__" (jR 12 0) f fd/\mg "Net" = some (.ref a.Net)/\Mk K a.Net f/\Binds K fd ["self", "right", "up", "starts", "ends"] []) (c_check_border:Cal P w K mg base "check_border" 2 (cT a) 1) (c_check_side:Cal P w K mg base "check_side" 1 (dB a) 1) (c_check_steps:Cal P w K mg base "check_steps" 3 (dh a) 1):Mak P w K mg base "Net" a.Net 4 (mG a) 2:=by
 refine Ae (k:=1) (N:=["self", "right", "up", "starts", "ends", "rows", "columns"]) U ux rfl fun f cdv A outer s H H0 E Ex hE hr=>?_
 have sc:=ux
 exact (ah (iu (aI c_check_side (bc hE) (hr.mono (by decide)) rfl (ag (aQ bA ba rfl B.b_len (by decide +kernel) (ag (ad 1 (mv 1)) ai)) ai)))
  (ah (aG (i:=5) sc.nd rfl (.inl rfl) (a9 (aQ bA ba rfl B.b_len (by decide +kernel) (ag (ad 1 (mv 1)) ai))))
  (ah (aG (i:=6) sc.nd rfl (.inl rfl) (a9 (aM br aY (aQ bA ba rfl B.b_len (by decide +kernel) (ag (aF (ad 1 (mv 1)) ak) ai)) ak)))
  (ah (iu (aI c_check_side (bc hE) (hr.mono (by decide)) rfl (ag (ad 6 (mv 6)) ai)))
  (ah (iu (aI c_check_steps (bc hE) (hr.mono (by decide)) rfl (ag (ad 1 (mv 1)) (ag (ad 5 (mv 5)) (ag (aM gk (aS _ _) (ad 6 (mv 6)) ak) ai)))))
  (ah (iu (aI c_check_steps (bc hE) (hr.mono (by decide)) rfl (ag (ad 2 (mv 2)) (ag (aM gk (aS _ _) (ad 5 (mv 5)) ak) (ag (ad 6 (mv 6)) ai)))))
  (ah (iu (aI c_check_border (bc hE) (hr.mono (by decide)) rfl (ag (ad 3 (mv 3)) (ag (ad 5 (mv 5)) ai))))
  (ah (iu (aI c_check_border (bc hE) (hr.mono (by decide)) rfl (ag (ad 4 (mv 4)) (ag (ad 5 (mv 5)) ai))))
  (ah (bt (aT jh (fW _) (aQ bA ba rfl B.b_len (by decide +kernel) (ag (ad 3 (mv 3)) ai)) (aQ bA ba rfl B.b_len (by decide +kernel) (ag (ad 4 (mv 4)) ai)) (aO _)) (ar (dg B.x_BadNet hE rfl)) aX)
  (ah (ji (mv 0) (dI rfl (CompScope.of (own:=["weights"]) (cap:=[]) rfl (by decide +kernel) rfl rfl (by decide +kernel)) (bT (ad 1 (mv 1))) (fun C cells s0 H0 ex pn hN=>⟨(bg (i:=0) hN rfl (by first | exact Or.inl rfl | exact Or.inr rfl)),cF,(cR dY cY rfl B.b_list (by decide +kernel) (ag (ad 0 (mv 0)) ai))⟩)) B.cl_Net B.na_Net_right)
  (ah (ji (mv 0) (dI rfl (CompScope.of (own:=["weights"]) (cap:=[]) rfl (by decide +kernel) rfl rfl (by decide +kernel)) (bT (ad 2 (mv 2))) (fun C cells s0 H0 ex pn hN=>⟨(bg (i:=0) hN rfl (by first | exact Or.inl rfl | exact Or.inr rfl)),cF,(cR dY cY rfl B.b_list (by decide +kernel) (ag (ad 0 (mv 0)) ai))⟩)) B.cl_Net B.na_Net_up)
  (ah (ji (mv 0) (cR dY cY rfl B.b_list (by decide +kernel) (ag (ad 3 (mv 3)) ai)) B.cl_Net B.na_Net_starts)
  (ah (ji (mv 0) (cR dY cY rfl B.b_list (by decide +kernel) (ag (ad 4 (mv 4)) ai)) B.cl_Net B.na_Net_ends)
  (ah (ji (mv 0) (ad 6 (mv 6)) B.cl_Net B.na_Net_columns)
  (ar (ji (mv 0) (ad 5 (mv 5)) B.cl_Net B.na_Net_rows))))))))))))))))
noncomputable def ow (a:Ads):ae->FOut:=
 (aK (iH (bX (fun i j=>decide (i <= j)) (fun i j=>decide (i < j)) (fC (.int 0)) (aa 1) (f1 (dk a.Net "columns") (aa 0))) (bX (fun i j=>decide (i <= j)) (fun i j=>decide (i < j)) (fC (.int 0)) (aa 2) (f1 (dk a.Net "rows") (aa 0)))))
noncomputable def hV (a:Ads):List D->Res D:=aN 3 (ow a)
theorem mH:FnScope ["net", "x", "y"] ["net", "x", "y"] (aA (top 13)):=⟨rfl,rfl,rfl,by decide +kernel,rfl,by decide +kernel,by decide +kernel⟩
theorem sg (B:Bl K mg a) (U:Df K mg "lies_on" (top 13) ["net", "x", "y"])  : Cal P w K mg base "lies_on" 3 (hV a) 1:=by
 refine bx (k:=0) (N:=["net", "x", "y"]) U mH fun f cdv A outer s H E Ex hE hr=>?_
 have sc:=mH
 exact (ar (aU (km (lW fP kS ak (ad 1 (mv 1)) (eL (ad 0 (mv 0)) B.cl_Net B.na_Net_columns)) (mt (lW fP kS ak (ad 2 (mv 2)) (eL (ad 0 (mv 0)) B.cl_Net B.na_Net_rows))))))
noncomputable def j3 (a:Ads):ae->FOut:=
 (ao (gIf (cW (ft2 dEq (aa 3) (fC (.str "r"))) (ft2 dLt (f2 aP (aa 1) (fC (.int 1))) (f1 (dk a.Net "columns") (aa 0)))) (aK (f2 dIx (f2 dIx (f1 (dk a.Net "right") (aa 0)) (aa 2)) (aa 1))) aC)
 (ao (gIf (cW (ft2 dEq (aa 3) (fC (.str "u"))) (ft2 dLt (f2 aP (aa 2) (fC (.int 1))) (f1 (dk a.Net "rows") (aa 0)))) (aK (f2 dIx (f2 dIx (f1 (dk a.Net "up") (aa 0)) (aa 2)) (aa 1))) aC)
 (aK (fC (.int 0)))))
noncomputable def dJ (a:Ads):List D->Res D:=aN 4 (j3 a)
theorem jn:FnScope ["net", "x", "y", "letter"] ["net", "x", "y", "letter"] (aA (top 14)):=⟨rfl,rfl,rfl,by decide +kernel,rfl,by decide +kernel,by decide +kernel⟩
theorem nH (B:Bl K mg a) (U:Df K mg "step_weight" (top 14) ["net", "x", "y", "letter"])  : Cal P w K mg base "step_weight" 4 (dJ a) 1:=by
 refine bx (k:=0) (N:=["net", "x", "y", "letter"]) U jn fun f cdv A outer s H E Ex hE hr=>?_
 have sc:=jn
 exact (ah (bt (FW.ft (gY (aT (eo (hu4 hr)) cS (ad 3 (mv 3)) eY (aO _)) (ge (aT mm (aS _ _) (aM br aY (ad 1 (mv 1)) ak) (eL (ad 0 (mv 0)) B.cl_Net B.na_Net_columns) (aO _))))) (ar (aU (aF (aF (eL (ad 0 (mv 0)) B.cl_Net B.na_Net_right) (ad 2 (mv 2))) (ad 1 (mv 1))))) aX)
  (ah (bt (FW.ft (gY (aT (eo (hu4 hr)) cS (ad 3 (mv 3)) eY (aO _)) (ge (aT mm (aS _ _) (aM br aY (ad 2 (mv 2)) ak) (eL (ad 0 (mv 0)) B.cl_Net B.na_Net_rows) (aO _))))) (ar (aU (aF (aF (eL (ad 0 (mv 0)) B.cl_Net B.na_Net_up) (ad 2 (mv 2))) (ad 1 (mv 1))))) aX)
  (ar (aU ak))))
noncomputable def jo (a:Ads):ae->FOut:=
 (aK (fIf (ft2 dEq (aa 2) (fC (.str "r"))) (bj (ac (f2 aP (aa 0) (fC (.int 1))) (ac (aa 1) af))) (bj (ac (aa 0) (ac (f2 aP (aa 1) (fC (.int 1))) af)))))
noncomputable def dZ (a:Ads):List D->Res D:=aN 3 (jo a)
theorem i3:FnScope ["x", "y", "letter"] ["x", "y", "letter"] (aA (top 15)):=⟨rfl,rfl,rfl,by decide +kernel,rfl,by decide +kernel,by decide +kernel⟩
theorem mI (B:Bl K mg a) (U:Df K mg "place_behind" (top 15) ["x", "y", "letter"])  : Cal P w K mg base "place_behind" 3 (dZ a) 1:=by
 refine bx (k:=0) (N:=["x", "y", "letter"]) U i3 fun f cdv A outer s H E Ex hE hr=>?_
 have sc:=i3
 exact (ar (aU (pB (aT (eo (hu4 hr)) cS (ad 2 (mv 2)) eY (aO _)) (dz (ag (aM br aY (ad 0 (mv 0)) ak) (ag (ad 1 (mv 1)) ai))) (dz (ag (ad 0 (mv 0)) (ag (aM br aY (ad 1 (mv 1)) ak) ai))))))
noncomputable def jS (a:Ads):ae->FOut:=
 (ao (gIf (bh (ftB (au 3 (hV a) (ac (aa 0) (ac (aa 1) (ac (aa 2) af)))))) (fun _=>.exc (.ref a.BadWalk)) aC)
 (ao (aq 4 (bd (ac (bj (ac (aa 1) (ac (aa 2) af))) af)))
 (ao (bH (aJ (aa 3)) (av 5) (ao (aq 6 (fFz (f2 dIx (aa 4) (f1 jG (fC (.int 1))))))
 (ao (gIf (ft2 dEq (au 4 (dJ a) (ac (aa 0) (ac (f2 dIx (aa 6) (fC (.int 0))) (ac (f2 dIx (aa 6) (fC (.int 1))) (ac (aa 5) af))))) (fC (.int 0))) (fun _=>.exc (.ref a.BadWalk)) aC)
 (c7 4 (au 3 (dZ a) (ac (f2 dIx (aa 6) (fC (.int 0))) (ac (f2 dIx (aa 6) (fC (.int 1))) (ac (aa 5) af))))))))
 (jF 4))))
noncomputable def gH (a:Ads):List D->Res D:=aN 7 (jS a)
theorem ox:FnScope ["net", "x", "y", "walk", "found", "letter", "place"] ["net", "x", "y", "walk"] (aA (top 17)):=⟨rfl,rfl,rfl,by decide +kernel,rfl,by decide +kernel,by decide +kernel⟩
theorem uy (B:Bl K mg a) (U:Df K mg "places" (top 17) ["net", "x", "y", "walk"]) (c_lies_on:Cal P w K mg base "lies_on" 3 (hV a) 1) (c_place_behind:Cal P w K mg base "place_behind" 3 (dZ a) 1) (c_step_weight:Cal P w K mg base "step_weight" 4 (dJ a) 1):Cal P w K mg base "places" 4 (gH a) 2:=by
 refine bx (k:=1) (N:=["net", "x", "y", "walk", "found", "letter", "place"]) U ox fun f cdv A outer s H E Ex hE hr=>?_
 have sc:=ox
 exact (ah (bt (gl (kg (aI c_lies_on (bc hE) (hr.mono (by decide)) rfl (ag (ad 0 (mv 0)) (ag (ad 1 (mv 1)) (ag (ad 2 (mv 2)) ai)))))) (ar (dg B.x_BadWalk hE rfl)) aX)
  (ah (aG (i:=4) sc.nd rfl (.inl rfl) (dy (ag (dz (ag (ad 1 (mv 1)) (ag (ad 2 (mv 2)) ai))) ai)))
  (ah (cq db rfl (bT (ad 3 (mv 3))) (bg (i:=5) sc.nd rfl (.inl rfl)) (ah (aG (i:=6) sc.nd rfl (.inl rfl) (a9 (aF (ad 4 (mv 4)) (pC ak))))
  (ah (bt (aT (eo (hu4 hr)) cS (aI c_step_weight (bc hE) (hr.mono (by decide)) rfl (ag (ad 0 (mv 0)) (ag (aF (ad 6 (mv 6)) ak) (ag (aF (ad 6 (mv 6)) ak) (ag (ad 5 (mv 5)) ai))))) ak (aO _)) (ar (dg B.x_BadWalk hE rfl)) aX)
  (ar (gZ (mv 4) (aI c_place_behind (bc hE) (hr.mono (by decide)) rfl (ag (aF (ad 6 (mv 6)) ak) (ag (aF (ad 6 (mv 6)) ak) (ag (ad 5 (mv 5)) ai)))))))))
  (ar (nD 4 (mv 4))))))
noncomputable def hW (a:Ads):ae->FOut:=
 (o7 (aK (au 4 (gH a) (ac (aa 0) (ac (fC (.int 0)) (ac (f2 dIx (f1 (dk a.Net "starts") (aa 0)) (aa 1)) (ac (aa 2) af)))))))
noncomputable def cZ (a:Ads):List D->Res D:=aN 3 (hW a)
theorem gz:FnScope ["net", "walker", "walk"] ["net", "walker", "walk"] (aA (top 19)):=⟨rfl,rfl,rfl,by decide +kernel,rfl,by decide +kernel,by decide +kernel⟩
theorem j8 (B:Bl K mg a) (U:Df K mg "places_of_walker" (top 19) ["net", "walker", "walk"]) (c_places:Cal P w K mg base "places" 4 (gH a) 2):Cal P w K mg base "places_of_walker" 3 (cZ a) 3:=by
 refine bx (k:=2) (N:=["net", "walker", "walk"]) U gz fun f cdv A outer s H E Ex hE hr=>?_
 have sc:=gz
 exact (ar (xr (fun E2 pn2 H2 Ex2 hx=>(ar (aU (aI c_places hx (hr.mono (by decide)) rfl (ag (ad 0 (mv 0)) (ag ak (ag (aF (eL (ad 0 (mv 0)) B.cl_Net B.na_Net_starts) (ad 1 (mv 1))) (ag (ad 2 (mv 2)) ai))))))))))
noncomputable def pP (a:Ads):ae->FOut:=
 (ao (gIf (fV (ft2 dNe (f2 dIx (aa 1) (fC (.int 0))) (f2 dR (f1 (dk a.Net "columns") (aa 0)) (fC (.int 1)))) (ft2 (dIn true) (f2 dIx (aa 1) (fC (.int 1))) (f1 (dk a.Net "ends") (aa 0)))) (fun _=>.exc (.ref a.BadCompany)) aC)
 (aK (nF (f1 (dk a.Net "ends") (aa 0)) (f2 dIx (aa 1) (fC (.int 1))))))
noncomputable def iM (a:Ads):List D->Res D:=aN 2 (pP a)
theorem oy:FnScope ["net", "place"] ["net", "place"] (aA (top 20)):=⟨rfl,rfl,rfl,by decide +kernel,rfl,by decide +kernel,by decide +kernel⟩
theorem uz (B:Bl K mg a) (U:Df K mg "end_at" (top 20) ["net", "place"])  : Cal P w K mg base "end_at" 2 (iM a) 1:=by
 refine bx (k:=0) (N:=["net", "place"]) U oy fun f cdv A outer s H E Ex hE hr=>?_
 have sc:=oy
 exact (ah (bt (FW.ft (ms (aT (mC (hu4 hr)) jk (aF (ad 1 (mv 1)) ak) (aM gk (aS _ _) (eL (ad 0 (mv 0)) B.cl_Net B.na_Net_columns) ak) (aO _)) (kh (aT (pM (hu4 hr)) (lf _) (aF (ad 1 (mv 1)) ak) (eL (ad 0 (mv 0)) B.cl_Net B.na_Net_ends) rfl)))) (ar (dg B.x_BadCompany hE rfl)) aX)
  (ar (aU (uk (eL (ad 0 (mv 0)) B.cl_Net B.na_Net_ends) (aF (ad 1 (mv 1)) ak)))))
noncomputable def kz (a:Ads):ae->FOut:=
 (aK (aL 1 [0] (aJ (aa 1)) (av 0) a8 (bU 2 (iM a) (ac (aa 1) (ac (f2 dIx (aa 0) (f1 jG (fC (.int 1)))) af)))))
noncomputable def gs (a:Ads):List D->Res D:=aN 2 (kz a)
theorem j4:FnScope ["net", "tracks"] ["net", "tracks"] (aA (top 21)):=⟨rfl,rfl,rfl,by decide +kernel,rfl,by decide +kernel,by decide +kernel⟩
theorem oU (B:Bl K mg a) (U:Df K mg "ends_taken" (top 21) ["net", "tracks"]) (c_end_at:Cal P w K mg base "end_at" 2 (iM a) 1):Cal P w K mg base "ends_taken" 2 (gs a) 2:=by
 refine bx (k:=1) (N:=["net", "tracks"]) U j4 fun f cdv A outer s H E Ex hE hr=>?_
 have sc:=j4
 exact (ar (aU (dI rfl (CompScope.of (own:=["track"]) (cap:=[("net", 0)]) rfl (by decide +kernel) rfl rfl (by decide +kernel)) (bT (ad 1 (mv 1))) (fun C cells s0 H0 ex pn hN=>⟨(bg (i:=0) hN rfl (by first | exact Or.inl rfl | exact Or.inr rfl)),cF,(fY c_end_at (hr.mono (by decide)) rfl (ag (ad 1 (mv 1)) (ag (aF (ad 0 (mv 0)) (pC ak)) ai)))⟩))))
noncomputable def i4 (a:Ads):ae->FOut:=
 (ao (gIf (ft2 (eR true) (fCB aR (ac (aa 1) af)) (fCB aR (ac (f1 (dk a.Net "starts") (aa 0)) af))) (fun _=>.exc (.ref a.BadCompany)) aC)
 (ao (aq 2 (fFz (aL 2 [0] (dN (ac (aa 1) af)) (bw [0,1]) a8 (bU 3 (cZ a) (ac (aa 2) (ac (aa 0) (ac (aa 1) af)))))))
 (ao (aq 3 (fFz (au 2 (gs a) (ac (aa 0) (ac (aa 2) af)))))
 (ao (gIf (ft2 (eR true) (lg (aa 3)) (fCB aR (ac (aa 3) af))) (fun _=>.exc (.ref a.BadCompany)) aC)
 (aK (aa 2))))))
noncomputable def eX (a:Ads):List D->Res D:=aN 4 (i4 a)
theorem iN:FnScope ["net", "company", "tracks", "taken"] ["net", "company"] (aA (top 22)):=⟨rfl,rfl,rfl,by decide +kernel,rfl,by decide +kernel,by decide +kernel⟩
theorem l6 (B:Bl K mg a) (U:Df K mg "places_of_all" (top 22) ["net", "company"]) (c_ends_taken:Cal P w K mg base "ends_taken" 2 (gs a) 2) (c_places_of_walker:Cal P w K mg base "places_of_walker" 3 (cZ a) 3):Cal P w K mg base "places_of_all" 2 (eX a) 4:=by
 refine bx (k:=3) (N:=["net", "company", "tracks", "taken"]) U iN fun f cdv A outer s H E Ex hE hr=>?_
 have sc:=iN
 exact (ah (bt (aT jh (fW _) (aQ bA ba rfl B.b_len (by decide +kernel) (ag (ad 1 (mv 1)) ai)) (aQ bA ba rfl B.b_len (by decide +kernel) (ag (eL (ad 0 (mv 0)) B.cl_Net B.na_Net_starts) ai)) (aO _)) (ar (dg B.x_BadCompany hE rfl)) aX)
  (ah (gE (ek (i:=2) sc.nd rfl (.inl rfl) rfl (CompScope.of (own:=["walker", "walk"]) (cap:=[("net", 0)]) rfl (by decide +kernel) rfl rfl (by decide +kernel)) (jl rfl B.b_enumerate (ag (ad 1 (mv 1)) ai)) (fun C cells s0 H0 ex pn hN=>⟨(fM (is:=[0,1]) rfl (bD (i:=0) (bQ (i:=0) hN rfl (by first | exact Or.inl rfl | exact Or.inr rfl)) (bD (i:=1) (bQ (i:=1) hN rfl (by first | exact Or.inl rfl | exact Or.inr rfl)) eN))),cF,(fY c_places_of_walker (hr.mono (by decide)) rfl (ag (ad 2 (mv 2)) (ag (ad 0 (mv 0)) (ag (ad 1 (mv 1)) ai))))⟩)))
  (ah (aG (i:=3) sc.nd rfl (.inl rfl) (a9 (aI c_ends_taken (bc hE) (hr.mono (by decide)) rfl (ag (ad 0 (mv 0)) (ag (ad 2 (mv 2)) ai)))))
  (ah (bt (aT jh (fW _) (uq rfl (ad 3 (mv 3)) rfl B.b_len rfl B.b_set) (aQ bA ba rfl B.b_len (by decide +kernel) (ag (ad 3 (mv 3)) ai)) (aO _)) (ar (dg B.x_BadCompany hE rfl)) aX)
  (ar (aU (ad 2 (mv 2))))))))
noncomputable def j5 (a:Ads):ae->FOut:=
 (ao (bH (dN (ac (aa 0) af)) (bw [3,4]) (gIf (cW (ft2 dNe (aa 3) (aa 1)) (ft2 (dIn false) (aa 2) (aa 4))) (aK (aa 3)) aC))
 (aK (fC .non)))
noncomputable def bJ (a:Ads):List D->Res D:=aN 5 (j5 a)
theorem jp:FnScope ["tracks", "walker", "place", "other", "track"] ["tracks", "walker", "place"] (aA (top 23)):=⟨rfl,rfl,rfl,by decide +kernel,rfl,by decide +kernel,by decide +kernel⟩
theorem nI (B:Bl K mg a) (U:Df K mg "least_other" (top 23) ["tracks", "walker", "place"])  : Cal P w K mg base "least_other" 3 (bJ a) 1:=by
 refine bx (k:=0) (N:=["tracks", "walker", "place", "other", "track"]) U jp fun f cdv A outer s H E Ex hE hr=>?_
 have sc:=jp
 exact (ah (cq db rfl (jl rfl B.b_enumerate (ag (ad 0 (mv 0)) ai)) (fM (is:=[3,4]) rfl (bD (i:=3) (bQ (i:=3) sc.nd rfl (.inl rfl)) (bD (i:=4) (bQ (i:=4) sc.nd rfl (.inl rfl)) eN))) (ar (bt (FW.ft (gY (aT (mC (hu4 hr)) jk (ad 3 (mv 3)) (ad 1 (mv 1)) (aO _)) (ge (aT (wx (hu4 hr)) (lf _) (ad 2 (mv 2)) (ad 4 (mv 4)) rfl)))) (ar (aU (ad 3 (mv 3)))) aX)))
  (ar (aU dL)))
noncomputable def i5 (a:Ads):ae->FOut:=
 (ao (aq 2 (fFz (au 2 (eX a) (ac (aa 0) (ac (aa 1) af)))))
 (ao (bH (dN (ac (aa 2) af)) (bw [3,4]) (bH (aJ (aa 4)) (av 5) (ao (aq 6 (fFz (au 3 (bJ a) (ac (aa 2) (ac (aa 3) (ac (aa 5) af))))))
 (gIf (ft2 (dS true) (aa 6) (fC .non)) (aK (bj (ac (aa 3) (ac (aa 5) (ac (aa 6) af))))) aC))))
 (aK (fC .non))))
noncomputable def dc (a:Ads):List D->Res D:=aN 7 (i5 a)
theorem iO:FnScope ["net", "company", "tracks", "walker", "track", "place", "other"] ["net", "company"] (aA (top 24)):=⟨rfl,rfl,rfl,by decide +kernel,rfl,by decide +kernel,by decide +kernel⟩
theorem l7 (B:Bl K mg a) (U:Df K mg "first_meeting" (top 24) ["net", "company"]) (c_least_other:Cal P w K mg base "least_other" 3 (bJ a) 1) (c_places_of_all:Cal P w K mg base "places_of_all" 2 (eX a) 4):Cal P w K mg base "first_meeting" 2 (dc a) 5:=by
 refine bx (k:=4) (N:=["net", "company", "tracks", "walker", "track", "place", "other"]) U iO fun f cdv A outer s H E Ex hE hr=>?_
 have sc:=iO
 exact (ah (aG (i:=2) sc.nd rfl (.inl rfl) (a9 (aI c_places_of_all (bc hE) (hr.mono (by decide)) rfl (ag (ad 0 (mv 0)) (ag (ad 1 (mv 1)) ai)))))
  (ah (cq db rfl (jl rfl B.b_enumerate (ag (ad 2 (mv 2)) ai)) (fM (is:=[3,4]) rfl (bD (i:=3) (bQ (i:=3) sc.nd rfl (.inl rfl)) (bD (i:=4) (bQ (i:=4) sc.nd rfl (.inl rfl)) eN))) (ar (cq db rfl (bT (ad 4 (mv 4))) (bg (i:=5) sc.nd rfl (.inl rfl)) (ah (aG (i:=6) sc.nd rfl (.inl rfl) (a9 (aI c_least_other (bc hE) (hr.mono (by decide)) rfl (ag (ad 2 (mv 2)) (ag (ad 3 (mv 3)) (ag (ad 5 (mv 5)) ai))))))
  (ar (bt (aT xm (fX _) (ad 6 (mv 6)) dL (aO _)) (ar (aU (dz (ag (ad 3 (mv 3)) (ag (ad 5 (mv 5)) (ag (ad 6 (mv 6)) ai)))))) aX))))))
  (ar (aU dL))))
noncomputable def mJ (a:Ads):ae->FOut:=
 (aK (f2 dR (f2 aP (f2 dIx (aa 2) (fC (.int 0))) (f2 dIx (aa 2) (fC (.int 1)))) (f2 dIx (f1 (dk a.Net "starts") (aa 0)) (aa 1))))
noncomputable def gu (a:Ads):List D->Res D:=aN 3 (mJ a)
theorem lD:FnScope ["net", "walker", "place"] ["net", "walker", "place"] (aA (top 25)):=⟨rfl,rfl,rfl,by decide +kernel,rfl,by decide +kernel,by decide +kernel⟩
theorem qG (B:Bl K mg a) (U:Df K mg "steps_to" (top 25) ["net", "walker", "place"])  : Cal P w K mg base "steps_to" 3 (gu a) 1:=by
 refine bx (k:=0) (N:=["net", "walker", "place"]) U lD fun f cdv A outer s H E Ex hE hr=>?_
 have sc:=lD
 exact (ar (aU (aM gk (aS _ _) (aM br aY (aF (ad 2 (mv 2)) ak) (aF (ad 2 (mv 2)) ak)) (aF (eL (ad 0 (mv 0)) B.cl_Net B.na_Net_starts) (ad 1 (mv 1))))))
noncomputable def lE (a:Ads):ae->FOut:=
 (ao (aq 2 (fFz (au 2 (dc a) (ac (aa 0) (ac (aa 1) af)))))
 (ao (gIf (ft2 (dS false) (aa 2) (fC .non)) (aK (fC .non)) aC)
 (ao (aq 3 (fFz (f2 dIx (aa 2) (fC (.int 0)))))
 (ao (aq 4 (fFz (f2 dIx (aa 2) (fC (.int 2)))))
 (ao (aq 5 (fFz (au 3 (gu a) (ac (aa 0) (ac (aa 3) (ac (f2 dIx (aa 2) (fC (.int 1))) af))))))
 (ao (aq 6 (fFz (au 3 (gu a) (ac (aa 0) (ac (aa 4) (ac (f2 dIx (aa 2) (fC (.int 1))) af))))))
 (ao (aq 7 (fCB bz (ac (aa 1) af)))
 (ao (eK 7 (aa 3) (f2 aP (fSl (f2 dIx (aa 1) (aa 3)) foN (foS (aa 5))) (fSl (f2 dIx (aa 1) (aa 4)) (foS (aa 6)) foN)))
 (ao (eK 7 (aa 4) (f2 aP (fSl (f2 dIx (aa 1) (aa 4)) foN (foS (aa 6))) (fSl (f2 dIx (aa 1) (aa 3)) (foS (aa 5)) foN)))
 (jF 7))))))))))
noncomputable def dW (a:Ads):List D->Res D:=aN 8 (lE a)
theorem kA:FnScope ["net", "company", "meeting", "one", "other", "cut_one", "cut_other", "changed"] ["net", "company"] (aA (top 26)):=⟨rfl,rfl,rfl,by decide +kernel,rfl,by decide +kernel,by decide +kernel⟩
theorem pQ (B:Bl K mg a) (U:Df K mg "exchanged" (top 26) ["net", "company"]) (c_first_meeting:Cal P w K mg base "first_meeting" 2 (dc a) 5) (c_steps_to:Cal P w K mg base "steps_to" 3 (gu a) 1):Cal P w K mg base "exchanged" 2 (dW a) 6:=by
 refine bx (k:=5) (N:=["net", "company", "meeting", "one", "other", "cut_one", "cut_other", "changed"]) U kA fun f cdv A outer s H E Ex hE hr=>?_
 have sc:=kA
 exact (ah (aG (i:=2) sc.nd rfl (.inl rfl) (a9 (aI c_first_meeting (bc hE) (hr.mono (by decide)) rfl (ag (ad 0 (mv 0)) (ag (ad 1 (mv 1)) ai)))))
  (ah (bt (aT jj (fX _) (ad 2 (mv 2)) dL (aO _)) (ar (aU dL)) aX)
  (ah (aG (i:=3) sc.nd rfl (.inl rfl) (a9 (aF (ad 2 (mv 2)) ak)))
  (ah (aG (i:=4) sc.nd rfl (.inl rfl) (a9 (aF (ad 2 (mv 2)) ak)))
  (ah (aG (i:=5) sc.nd rfl (.inl rfl) (a9 (aI c_steps_to (bc hE) (hr.mono (by decide)) rfl (ag (ad 0 (mv 0)) (ag (ad 3 (mv 3)) (ag (aF (ad 2 (mv 2)) ak) ai))))))
  (ah (aG (i:=6) sc.nd rfl (.inl rfl) (a9 (aI c_steps_to (bc hE) (hr.mono (by decide)) rfl (ag (ad 0 (mv 0)) (ag (ad 4 (mv 4)) (ag (aF (ad 2 (mv 2)) ak) ai))))))
  (ah (aG (i:=7) sc.nd rfl (.inl rfl) (cR dY cY rfl B.b_list (by decide +kernel) (ag (ad 1 (mv 1)) ai)))
  (ah (jI (mv 7) (aM br aY (fj (aF (ad 1 (mv 1)) (ad 3 (mv 3))) gf (gh (ad 5 (mv 5)))) (fj (aF (ad 1 (mv 1)) (ad 4 (mv 4))) (gh (ad 6 (mv 6))) gf)) (ad 3 (mv 3)))
  (ah (jI (mv 7) (aM br aY (fj (aF (ad 1 (mv 1)) (ad 4 (mv 4))) gf (gh (ad 6 (mv 6)))) (fj (aF (ad 1 (mv 1)) (ad 3 (mv 3))) (gh (ad 5 (mv 5))) gf)) (ad 4 (mv 4)))
  (ar (nD 7 (mv 7))))))))))))
noncomputable def gJ (a:Ads):ae->FOut:=
 (ao (gIf (ft2 dLt (aa 1) (fCB aR (ac (aa 0) af))) (aK (f2 dIx (aa 0) (aa 1))) aC)
 (aK (fC (.int 0))))
noncomputable def az (a:Ads):List D->Res D:=aN 2 (gJ a)
theorem i6:FnScope ["script", "k"] ["script", "k"] (aA (top 28)):=⟨rfl,rfl,rfl,by decide +kernel,rfl,by decide +kernel,by decide +kernel⟩
theorem mK (B:Bl K mg a) (U:Df K mg "_law_cell_at" (top 28) ["script", "k"])  : Cal P w K mg base "_law_cell_at" 2 (az a) 1:=by
 refine bx (k:=0) (N:=["script", "k"]) U i6 fun f cdv A outer s H E Ex hE hr=>?_
 have sc:=i6
 exact (ah (bt (aT mm (aS _ _) (ad 1 (mv 1)) (aQ bA ba rfl B.b_len (by decide +kernel) (ag (ad 0 (mv 0)) ai)) (aO _)) (ar (aU (aF (ad 0 (mv 0)) (ad 1 (mv 1))))) aX)
  (ar (aU ak)))
noncomputable def mL (a:Ads):ae->FOut:=
 (ao (aq 3 (fFz (bd (ac (fC (.int 48271)) (ac (fC (.int 69621)) (ac (fC (.int 16807)) (ac (fC (.int 39373)) (ac (fC (.int 30269)) (ac (fC (.int 40014)) (ac (fC (.int 40692)) (ac (fC (.int 50021)) (ac (fC (.int 61687)) (ac (fC (.int 71993)) (ac (fC (.int 83869)) (ac (fC (.int 95561)) (ac (fC (.int 30307)) af))))))))))))))))
 (ao (aq 4 (fFz (f2 dE (f2 aP (f2 cX (aa 0) (fC (.int 2147483647))) (fC (.int 12345))) (f2 dIx (aa 3) (f2 cX (aa 1) (fC (.int 13)))))))
 (ao (aq 4 (fFz (f2 aP (f2 dE (aa 4) (f2 aP (f2 dE (fC (.int 2)) (f2 ml (aa 1) (fC (.int 13)))) (fC (.int 1)))) (f2 dE (fC (.int 977)) (aa 1)))))
 (aK (f2 cX (f2 ml (f2 cX (aa 4) (fC (.int 1000000007))) (fC (.int 7))) (aa 2))))))
noncomputable def bY (a:Ads):List D->Res D:=aN 5 (mL a)
theorem lF:FnScope ["cell", "k", "many", "some", "number"] ["cell", "k", "many"] (aA (top 29)):=⟨rfl,rfl,rfl,by decide +kernel,rfl,by decide +kernel,by decide +kernel⟩
theorem qH (B:Bl K mg a) (U:Df K mg "_law_mix" (top 29) ["cell", "k", "many"])  : Cal P w K mg base "_law_mix" 3 (bY a) 1:=by
 refine bx (k:=0) (N:=["cell", "k", "many", "some", "number"]) U lF fun f cdv A outer s H E Ex hE hr=>?_
 have sc:=lF
 exact (ah (aG (i:=3) sc.nd rfl (.inl rfl) (a9 (dy (ag ak (ag ak (ag ak (ag ak (ag ak (ag ak (ag ak (ag ak (ag ak (ag ak (ag ak (ag ak (ag ak ai))))))))))))))))
  (ah (aG (i:=4) sc.nd rfl (.inl rfl) (a9 (aM gd (aS _ _) (aM br aY (aM eZ (aS _ _) (ad 0 (mv 0)) ak) ak) (aF (ad 3 (mv 3)) (aM eZ (aS _ _) (ad 1 (mv 1)) ak)))))
  (ah (aG (i:=4) sc.nd rfl (.inl rfl) (a9 (aM br aY (aM gd (aS _ _) (ad 4 (mv 4)) (aM br aY (aM gd (aS _ _) ak (aM qX (aS _ _) (ad 1 (mv 1)) ak)) ak)) (aM gd (aS _ _) ak (ad 1 (mv 1))))))
  (ar (aU (aM eZ (aS _ _) (aM qX (aS _ _) (aM eZ (aS _ _) (ad 4 (mv 4)) ak) ak) (ad 2 (mv 2))))))))
noncomputable def gK (a:Ads):ae->FOut:=
 (ao (aq 3 (eO (ac (aa 2) af)))
 (ao (aq 4 (bd af))
 (ao (bH (bW (ac (aa 1) af)) (av 5) (eP 4 3 (au 3 (bY a) (ac (aa 0) (ac (f2 dE (fC (.int 7)) (aa 5)) (ac (fCB aR (ac (aa 3) af)) af))))))
 (aK (fCB em (ac (aa 4) af))))))
noncomputable def bZ (a:Ads):List D->Res D:=aN 6 (gK a)
theorem i7:FnScope ["cell", "many", "rows", "left", "found", "k"] ["cell", "many", "rows"] (aA (top 31)):=⟨rfl,rfl,rfl,by decide +kernel,rfl,by decide +kernel,by decide +kernel⟩
theorem mM (B:Bl K mg a) (U:Df K mg "_law_rows_by" (top 31) ["cell", "many", "rows"]) (c__law_mix:Cal P w K mg base "_law_mix" 3 (bY a) 1):Cal P w K mg base "_law_rows_by" 3 (bZ a) 2:=by
 refine bx (k:=1) (N:=["cell", "many", "rows", "left", "found", "k"]) U i7 fun f cdv A outer s H E Ex hE hr=>?_
 have sc:=i7
 exact (ah (aG (i:=3) sc.nd rfl (.inl rfl) (oj rfl rfl B.b_range rfl B.b_list (ag (ad 2 (mv 2)) ai)))
  (ah (aG (i:=4) sc.nd rfl (.inl rfl) (dy ai))
  (ah (cq db rfl (dt rfl B.b_range (ag (ad 1 (mv 1)) ai)) (bg (i:=5) sc.nd rfl (.inl rfl)) (ar (tX (mv 4) (mv 3) (aI c__law_mix (bc hE) (hr.mono (by decide)) rfl (ag (ad 0 (mv 0)) (ag (aM gd (aS _ _) ak (ad 5 (mv 5))) (ag (aQ bA ba rfl B.b_len (by decide +kernel) (ag (ad 3 (mv 3)) ai)) ai)))))))
  (ar (aU (aQ rV pF rfl B.b_sorted (by decide +kernel) (ag (ad 4 (mv 4)) ai)))))))
noncomputable def fE (a:Ads):ae->FOut:=
 (ao (aq 3 (fFz (au 3 (bY a) (ac (aa 0) (ac (aa 1) (ac (aa 2) af))))))
 (ao (gIf (ft2 dEq (aa 3) (fC (.int 0))) (aK (fC (.int 0))) aC)
 (ao (gIf (ft2 dEq (aa 3) (fC (.int 1))) (aK (f2 dIx (bd (ac (fC (.int 1000)) (ac (f2 cX (aa 0) (fC (.int 1001))) af))) (au 3 (bY a) (ac (aa 0) (ac (f2 aP (aa 1) (fC (.int 500))) (ac (fC (.int 2)) af)))))) aC)
 (aK (f2 aP (fC (.int 1)) (au 3 (bY a) (ac (aa 0) (ac (f2 aP (aa 1) (fC (.int 900))) (ac (fC (.int 5)) af)))))))))
noncomputable def bM (a:Ads):List D->Res D:=aN 4 (fE a)
theorem i8:FnScope ["cell", "k", "shut", "kind"] ["cell", "k", "shut"] (aA (top 32)):=⟨rfl,rfl,rfl,by decide +kernel,rfl,by decide +kernel,by decide +kernel⟩
theorem mO (B:Bl K mg a) (U:Df K mg "_law_step_by" (top 32) ["cell", "k", "shut"]) (c__law_mix:Cal P w K mg base "_law_mix" 3 (bY a) 1):Cal P w K mg base "_law_step_by" 3 (bM a) 2:=by
 refine bx (k:=1) (N:=["cell", "k", "shut", "kind"]) U i8 fun f cdv A outer s H E Ex hE hr=>?_
 have sc:=i8
 exact (ah (aG (i:=3) sc.nd rfl (.inl rfl) (a9 (aI c__law_mix (bc hE) (hr.mono (by decide)) rfl (ag (ad 0 (mv 0)) (ag (ad 1 (mv 1)) (ag (ad 2 (mv 2)) ai))))))
  (ah (bt (aT (eo (hu4 hr)) cS (ad 3 (mv 3)) ak (aO _)) (ar (aU ak)) aX)
  (ah (bt (aT (eo (hu4 hr)) cS (ad 3 (mv 3)) ak (aO _)) (ar (aU (aF (dy (ag ak (ag (aM eZ (aS _ _) (ad 0 (mv 0)) ak) ai))) (aI c__law_mix (bc hE) (hr.mono (by decide)) rfl (ag (ad 0 (mv 0)) (ag (aM br aY (ad 1 (mv 1)) ak) (ag ak ai))))))) aX)
  (ar (aU (aM br aY ak (aI c__law_mix (bc hE) (hr.mono (by decide)) rfl (ag (ad 0 (mv 0)) (ag (aM br aY (ad 1 (mv 1)) ak) (ag ak ai))))))))))
noncomputable def gv (a:Ads):ae->FOut:=
 (ao (aq 4 (fFz (f2 aP (fC (.int 1)) (f2 cX (au 2 (az a) (ac (aa 0) (ac (fC (.int 0)) af))) (aa 1)))))
 (ao (aq 5 (fFz (f2 aP (fC (.int 1)) (f2 cX (au 2 (az a) (ac (aa 0) (ac (fC (.int 1)) af))) (aa 1)))))
 (ao (aq 6 (fFz (au 2 (az a) (ac (aa 0) (ac (fC (.int 2)) af)))))
 (ao (aq 7 (fFz (aL 1 [3,4,6] (bW (ac (aa 5) af)) (av 0) a8 (aL 1 [0,1,3] (bW (ac (f2 dR (aa 2) (fC (.int 1))) af)) (av 0) a8 (bU 3 (bM a) (ac (aa 3) (ac (f2 aP (f2 dE (fC (.int 10)) (aa 1)) (aa 0)) (ac (aa 2) af))))))))
 (ao (aq 6 (fFz (au 2 (az a) (ac (aa 0) (ac (fC (.int 3)) af)))))
 (ao (aq 8 (fFz (aL 1 [3,4,6] (bW (ac (f2 dR (aa 5) (fC (.int 1))) af)) (av 0) a8 (aL 1 [0,1,3] (bW (ac (aa 2) af)) (av 0) a8 (bU 3 (bM a) (ac (aa 3) (ac (f2 aP (f2 aP (fC (.int 200)) (f2 dE (fC (.int 10)) (aa 1))) (aa 0)) (ac (aa 2) af))))))))
 (ao (aq 9 (fFz (f2 aP (fC (.int 1)) (f2 cX (au 2 (az a) (ac (aa 0) (ac (fC (.int 4)) af))) (fCB jH (ac (aa 2) (ac (aa 5) af)))))))
 (ao (aq 10 (fFz (au 3 (bZ a) (ac (au 2 (az a) (ac (aa 0) (ac (fC (.int 5)) af))) (ac (aa 9) (ac (aa 5) af))))))
 (ao (aq 11 (fFz (au 3 (bZ a) (ac (au 2 (az a) (ac (aa 0) (ac (fC (.int 6)) af))) (ac (aa 9) (ac (aa 5) af))))))
 (ao (gIf (ft2 dGt (f2 cX (au 2 (az a) (ac (aa 0) (ac (fC (.int 7)) af))) (fC (.int 3))) (fC (.int 0))) (ao (aq 10 (fFz (eO (ac (aa 9) af))))
 (aq 11 (fFz (aL 1 [5,9] (bW (ac (aa 9) af)) (av 0) a8 (f2 aP (f2 dR (aa 1) (aa 2)) (aa 0)))))) aC)
 (aK (bj (ac (aa 7) (ac (aa 8) (ac (aa 10) (ac (aa 11) af))))))))))))))))
noncomputable def de (a:Ads):List D->Res D:=aN 12 (gv a)
theorem iP:FnScope ["script", "most", "walkers", "shut", "columns", "rows", "cell", "right", "up", "many", "starts", "ends"] ["script", "most", "walkers", "shut"] (aA (top 33)):=⟨rfl,rfl,rfl,by decide +kernel,rfl,by decide +kernel,by decide +kernel⟩
theorem l8 (B:Bl K mg a) (U:Df K mg "_law_parts_by" (top 33) ["script", "most", "walkers", "shut"]) (c__law_cell_at:Cal P w K mg base "_law_cell_at" 2 (az a) 1) (c__law_rows_by:Cal P w K mg base "_law_rows_by" 3 (bZ a) 2) (c__law_step_by:Cal P w K mg base "_law_step_by" 3 (bM a) 2):Cal P w K mg base "_law_parts_by" 4 (de a) 3:=by
 refine bx (k:=2) (N:=["script", "most", "walkers", "shut", "columns", "rows", "cell", "right", "up", "many", "starts", "ends"]) U iP fun f cdv A outer s H E Ex hE hr=>?_
 have sc:=iP
 exact (ah (aG (i:=4) sc.nd rfl (.inr rfl) (a9 (aM br aY ak (aM eZ (aS _ _) (aI c__law_cell_at (bc hE) (hr.mono (by decide)) rfl (ag (ad 0 (mv 0)) (ag ak ai))) (ad 1 (mv 1))))))
  (ah (aG (i:=5) sc.nd rfl (.inr rfl) (a9 (aM br aY ak (aM eZ (aS _ _) (aI c__law_cell_at (bc hE) (hr.mono (by decide)) rfl (ag (ad 0 (mv 0)) (ag ak ai))) (ad 1 (mv 1))))))
  (ah (aG (i:=6) sc.nd rfl (.inr rfl) (a9 (aI c__law_cell_at (bc hE) (hr.mono (by decide)) rfl (ag (ad 0 (mv 0)) (ag ak ai)))))
  (ah (gE (ek (i:=7) sc.nd rfl (.inl rfl) rfl (CompScope.of (own:=["y"]) (cap:=[("shut", 3),("columns", 4),("cell", 6)]) rfl (by decide +kernel) rfl rfl (by decide +kernel)) (dt rfl B.b_range (ag (ad 5 (mv 5)) ai)) (fun C cells s0 H0 ex pn hN=>⟨(bg (i:=0) hN rfl (by first | exact Or.inl rfl | exact Or.inr rfl)),cF,(dI rfl (CompScope.of (own:=["x"]) (cap:=[("y", 0),("shut", 1),("cell", 3)]) rfl (by decide +kernel) rfl rfl (by decide +kernel)) (dt rfl B.b_range (ag (aM gk (aS _ _) (ad 2 (mv 2)) ak) ai)) (fun C cells s0 H0 ex pn hN=>⟨(bg (i:=0) hN rfl (by first | exact Or.inl rfl | exact Or.inr rfl)),cF,(fY c__law_step_by (hr.mono (by decide)) rfl (ag (ad 3 (mv 3)) (ag (aM br aY (aM gd (aS _ _) ak (ad 1 (mv 1))) (ad 0 (mv 0))) (ag (ad 2 (mv 2)) ai))))⟩))⟩)))
  (ah (aG (i:=6) sc.nd rfl (.inr rfl) (a9 (aI c__law_cell_at (bc hE) (hr.mono (by decide)) rfl (ag (ad 0 (mv 0)) (ag ak ai)))))
  (ah (gE (ek (i:=8) sc.nd rfl (.inl rfl) rfl (CompScope.of (own:=["y"]) (cap:=[("shut", 3),("columns", 4),("cell", 6)]) rfl (by decide +kernel) rfl rfl (by decide +kernel)) (dt rfl B.b_range (ag (aM gk (aS _ _) (ad 5 (mv 5)) ak) ai)) (fun C cells s0 H0 ex pn hN=>⟨(bg (i:=0) hN rfl (by first | exact Or.inl rfl | exact Or.inr rfl)),cF,(dI rfl (CompScope.of (own:=["x"]) (cap:=[("y", 0),("shut", 1),("cell", 3)]) rfl (by decide +kernel) rfl rfl (by decide +kernel)) (dt rfl B.b_range (ag (ad 2 (mv 2)) ai)) (fun C cells s0 H0 ex pn hN=>⟨(bg (i:=0) hN rfl (by first | exact Or.inl rfl | exact Or.inr rfl)),cF,(fY c__law_step_by (hr.mono (by decide)) rfl (ag (ad 3 (mv 3)) (ag (aM br aY (aM br aY ak (aM gd (aS _ _) ak (ad 1 (mv 1)))) (ad 0 (mv 0))) (ag (ad 2 (mv 2)) ai))))⟩))⟩)))
  (ah (aG (i:=9) sc.nd rfl (.inr rfl) (a9 (aM br aY ak (aM eZ (aS _ _) (aI c__law_cell_at (bc hE) (hr.mono (by decide)) rfl (ag (ad 0 (mv 0)) (ag ak ai))) (aQ (xc rfl) tL rfl B.b_min (by decide +kernel) (ag (ad 2 (mv 2)) (ag (ad 5 (mv 5)) ai)))))))
  (ah (aG (i:=10) sc.nd rfl (.inl rfl) (a9 (aI c__law_rows_by (bc hE) (hr.mono (by decide)) rfl (ag (aI c__law_cell_at (bc hE) (hr.mono (by decide)) rfl (ag (ad 0 (mv 0)) (ag ak ai))) (ag (ad 9 (mv 9)) (ag (ad 5 (mv 5)) ai))))))
  (ah (aG (i:=11) sc.nd rfl (.inl rfl) (a9 (aI c__law_rows_by (bc hE) (hr.mono (by decide)) rfl (ag (aI c__law_cell_at (bc hE) (hr.mono (by decide)) rfl (ag (ad 0 (mv 0)) (ag ak ai))) (ag (ad 9 (mv 9)) (ag (ad 5 (mv 5)) ai))))))
  (ah (bt (aT k6 (aS _ _) (aM eZ (aS _ _) (aI c__law_cell_at (bc hE) (hr.mono (by decide)) rfl (ag (ad 0 (mv 0)) (ag ak ai))) ak) ak (aO _)) (ah (aG (i:=10) sc.nd rfl (.inl rfl) (a9 (oj rfl rfl B.b_range rfl B.b_list (ag (ad 9 (mv 9)) ai))))
  (ar (gE (ek (i:=11) sc.nd rfl (.inl rfl) rfl (CompScope.of (own:=["k"]) (cap:=[("rows", 5),("many", 9)]) rfl (by decide +kernel) rfl rfl (by decide +kernel)) (dt rfl B.b_range (ag (ad 9 (mv 9)) ai)) (fun C cells s0 H0 ex pn hN=>⟨(bg (i:=0) hN rfl (by first | exact Or.inl rfl | exact Or.inr rfl)),cF,(aM br aY (aM gk (aS _ _) (ad 1 (mv 1)) (ad 2 (mv 2))) (ad 0 (mv 0)))⟩))))) aX)
  (ar (aU (dz (ag (ad 7 (mv 7)) (ag (ad 8 (mv 8)) (ag (ad 10 (mv 10)) (ag (ad 11 (mv 11)) ai)))))))))))))))))
noncomputable def mP (a:Ads):ae->FOut:=
 (ao (vE 1 2 (ac (aL 1 [] (aJ (f2 dIx (aa 0) (fC (.int 0)))) (av 0) a8 (fCB bz (ac (aa 0) af))) (ac (aL 1 [] (aJ (f2 dIx (aa 0) (fC (.int 1)))) (av 0) a8 (fCB bz (ac (aa 0) af))) af)))
 (aK (rY a.Net 4 (mG a) (ac (aa 1) (ac (aa 2) (ac (fCB bz (ac (f2 dIx (aa 0) (fC (.int 2))) af)) (ac (fCB bz (ac (f2 dIx (aa 0) (fC (.int 3))) af)) af)))))))
noncomputable def ip (a:Ads):List D->Res D:=aN 3 (mP a)
theorem lG:FnScope ["parts", "right", "up"] ["parts"] (aA (top 34)):=⟨rfl,rfl,rfl,by decide +kernel,rfl,by decide +kernel,by decide +kernel⟩
theorem qI (B:Bl K mg a) (U:Df K mg "_law_net" (top 34) ["parts"]) (c_Net:Mak P w K mg base "Net" a.Net 4 (mG a) 2):Cal P w K mg base "_law_net" 1 (ip a) 4:=by
 refine bx (k:=3) (N:=["parts", "right", "up"]) U lG fun f cdv A outer s H E Ex hE hr=>?_
 have sc:=lG
 exact (ah (yS (i:=1) (j:=2) rfl sc.nd rfl rfl (by decide) rfl rfl (ag (dI rfl (CompScope.of (own:=["row"]) (cap:=[]) rfl (by decide +kernel) rfl rfl (by decide +kernel)) (bT (aF (ad 0 (mv 0)) ak)) (fun C cells s0 H0 ex pn hN=>⟨(bg (i:=0) hN rfl (by first | exact Or.inl rfl | exact Or.inr rfl)),cF,(cR dY cY rfl B.b_list (by decide +kernel) (ag (ad 0 (mv 0)) ai))⟩)) (ag (dI rfl (CompScope.of (own:=["row"]) (cap:=[]) rfl (by decide +kernel) rfl rfl (by decide +kernel)) (bT (aF (ad 0 (mv 0)) ak)) (fun C cells s0 H0 ex pn hN=>⟨(bg (i:=0) hN rfl (by first | exact Or.inl rfl | exact Or.inr rfl)),cF,(cR dY cY rfl B.b_list (by decide +kernel) (ag (ad 0 (mv 0)) ai))⟩)) ai)) rfl)
  (ar (aU (xk c_Net (bc hE) (hr.mono (by decide)) rfl (ag (ad 1 (mv 1)) (ag (ad 2 (mv 2)) (ag (cR dY cY rfl B.b_list (by decide +kernel) (ag (aF (ad 0 (mv 0)) ak) ai)) (ag (cR dY cY rfl B.b_list (by decide +kernel) (ag (aF (ad 0 (mv 0)) ak) ai)) ai))))))))
noncomputable def lH (a:Ads):ae->FOut:=
 (ao (gIf (cW (ft2 dEq (aa 3) (fC (.str "r"))) (ft2 dLt (aa 1) (fCB aR (ac (f2 dIx (f2 dIx (aa 0) (fC (.int 0))) (fC (.int 0))) af)))) (aK (f2 dIx (f2 dIx (f2 dIx (aa 0) (fC (.int 0))) (aa 2)) (aa 1))) aC)
 (ao (gIf (cW (ft2 dEq (aa 3) (fC (.str "u"))) (ft2 dLt (aa 2) (fCB aR (ac (f2 dIx (aa 0) (fC (.int 1))) af)))) (aK (f2 dIx (f2 dIx (f2 dIx (aa 0) (fC (.int 1))) (aa 2)) (aa 1))) aC)
 (aK (fC (.int 0)))))
noncomputable def cu (a:Ads):List D->Res D:=aN 4 (lH a)
theorem kC:FnScope ["parts", "x", "y", "letter"] ["parts", "x", "y", "letter"] (aA (top 35)):=⟨rfl,rfl,rfl,by decide +kernel,rfl,by decide +kernel,by decide +kernel⟩
theorem pR (B:Bl K mg a) (U:Df K mg "_law_step" (top 35) ["parts", "x", "y", "letter"])  : Cal P w K mg base "_law_step" 4 (cu a) 1:=by
 refine bx (k:=0) (N:=["parts", "x", "y", "letter"]) U kC fun f cdv A outer s H E Ex hE hr=>?_
 have sc:=kC
 exact (ah (bt (FW.ft (gY (aT (eo (hu4 hr)) cS (ad 3 (mv 3)) eY (aO _)) (ge (aT mm (aS _ _) (ad 1 (mv 1)) (aQ bA ba rfl B.b_len (by decide +kernel) (ag (aF (aF (ad 0 (mv 0)) ak) ak) ai)) (aO _))))) (ar (aU (aF (aF (aF (ad 0 (mv 0)) ak) (ad 2 (mv 2))) (ad 1 (mv 1))))) aX)
  (ah (bt (FW.ft (gY (aT (eo (hu4 hr)) cS (ad 3 (mv 3)) eY (aO _)) (ge (aT mm (aS _ _) (ad 2 (mv 2)) (aQ bA ba rfl B.b_len (by decide +kernel) (ag (aF (ad 0 (mv 0)) ak) ai)) (aO _))))) (ar (aU (aF (aF (aF (ad 0 (mv 0)) ak) (ad 2 (mv 2))) (ad 1 (mv 1))))) aX)
  (ar (aU ak))))
noncomputable def lI (a:Ads):ae->FOut:=
 (ao (gIf (fV (bh (ftB (bX (fun i j=>decide (i <= j)) (fun i j=>decide (i <= j)) (fC (.int 0)) (aa 1) (fCB aR (ac (f2 dIx (f2 dIx (aa 0) (fC (.int 0))) (fC (.int 0))) af))))) (bh (ftB (bX (fun i j=>decide (i <= j)) (fun i j=>decide (i < j)) (fC (.int 0)) (aa 2) (fCB aR (ac (f2 dIx (aa 0) (fC (.int 0))) af)))))) (aK (fC .non)) aC)
 (ao (aq 4 (bd (ac (bj (ac (aa 1) (ac (aa 2) af))) af)))
 (ao (aq 5 (fFz (fC (.int 1))))
 (ao (bH (aJ (aa 3)) (av 6) (ao (aq 7 (fFz (au 4 (cu a) (ac (aa 0) (ac (aa 1) (ac (aa 2) (ac (aa 6) af)))))))
 (ao (gIf (ft2 dEq (aa 7) (fC (.int 0))) (aK (fC .non)) aC)
 (ao (aq 5 (fFz (f2 dE (aa 5) (aa 7))))
 (ao (gIf (ft2 dEq (aa 6) (fC (.str "r"))) (aq 1 (fFz (f2 aP (aa 1) (fC (.int 1))))) (aq 2 (fFz (f2 aP (aa 2) (fC (.int 1))))))
 (c7 4 (bj (ac (aa 1) (ac (aa 2) af)))))))))
 (fun ρ=>(aK (bj (ac (aa 4) (ac (aa 5) af)))) (frzAt 4 ρ))))))
noncomputable def eQ (a:Ads):List D->Res D:=aN 8 (lI a)
theorem kD:FnScope ["parts", "x", "y", "walk", "found", "total", "letter", "step"] ["parts", "x", "y", "walk"] (aA (top 36)):=⟨rfl,rfl,rfl,by decide +kernel,rfl,by decide +kernel,by decide +kernel⟩
theorem pS (B:Bl K mg a) (U:Df K mg "_law_went" (top 36) ["parts", "x", "y", "walk"]) (c__law_step:Cal P w K mg base "_law_step" 4 (cu a) 1):Cal P w K mg base "_law_went" 4 (eQ a) 2:=by
 refine bx (k:=1) (N:=["parts", "x", "y", "walk", "found", "total", "letter", "step"]) U kD fun f cdv A outer s H E Ex hE hr=>?_
 have sc:=kD
 exact (ah (bt (FW.ft (ms (gl (iJ fP fP ak (ad 1 (mv 1)) (aQ bA ba rfl B.b_len (by decide +kernel) (ag (aF (aF (ad 0 (mv 0)) ak) ak) ai)))) (kh (gl (iJ fP kS ak (ad 2 (mv 2)) (aQ bA ba rfl B.b_len (by decide +kernel) (ag (aF (ad 0 (mv 0)) ak) ai))))))) (ar (aU dL)) aX)
  (ah (aG (i:=4) sc.nd rfl (.inl rfl) (dy (ag (dz (ag (ad 1 (mv 1)) (ag (ad 2 (mv 2)) ai))) ai)))
  (ah (aG (i:=5) sc.nd rfl (.inl rfl) (a9 ak))
  (ah (cq db rfl (bT (ad 3 (mv 3))) (bg (i:=6) sc.nd rfl (.inl rfl)) (ah (aG (i:=7) sc.nd rfl (.inl rfl) (a9 (aI c__law_step (bc hE) (hr.mono (by decide)) rfl (ag (ad 0 (mv 0)) (ag (ad 1 (mv 1)) (ag (ad 2 (mv 2)) (ag (ad 6 (mv 6)) ai)))))))
  (ah (bt (aT (eo (hu4 hr)) cS (ad 7 (mv 7)) ak (aO _)) (ar (aU dL)) aX)
  (ah (aG (i:=5) sc.nd rfl (.inl rfl) (a9 (aM gd (aS _ _) (ad 5 (mv 5)) (ad 7 (mv 7)))))
  (ah (bt (aT (eo (hu4 hr)) cS (ad 6 (mv 6)) eY (aO _)) (ar (aG (i:=1) sc.nd rfl (.inl rfl) (a9 (aM br aY (ad 1 (mv 1)) ak)))) (ar (aG (i:=2) sc.nd rfl (.inl rfl) (a9 (aM br aY (ad 2 (mv 2)) ak)))))
  (ar (gZ (mv 4) (dz (ag (ad 1 (mv 1)) (ag (ad 2 (mv 2)) ai))))))))))
  (ar (mo 4 (aU (dz (ag (ad 4 (mv 4)) (ag (ad 5 (mv 5)) ai))))))))))
noncomputable def mQ (a:Ads):ae->FOut:=
 (ao (aq 3 (fFz (bd (ac (bj (ac (aa 1) (ac (fC (.str "")) af))) af))))
 (ao (bH (bW (ac (f2 aP (f2 dR (f2 dIx (aa 2) (fC (.int 0))) (f2 dIx (aa 1) (fC (.int 0)))) (fCB k8 (ac (fC (.int 0)) (ac (f2 dR (f2 dIx (aa 2) (fC (.int 1))) (f2 dIx (aa 1) (fC (.int 1)))) af)))) af)) (av 4) (ao (aq 5 (bd af))
 (ao (bH (aJ (aa 3)) (bw [6,7]) (bH (aJ (fC (.str "ru"))) (av 8) (ao (aq 9 (fFz (bj (ac (f2 aP (f2 dIx (aa 6) (fC (.int 0))) (fCB iI (ac (f2 dEq (aa 8) (fC (.str "r"))) af))) (ac (f2 aP (f2 dIx (aa 6) (fC (.int 1))) (fCB iI (ac (f2 dEq (aa 8) (fC (.str "u"))) af))) af)))))
 (ao (aq 10 (fFz (iH (f2 dLe (f2 dIx (aa 9) (fC (.int 0))) (f2 dIx (aa 2) (fC (.int 0)))) (f2 dLe (f2 dIx (aa 9) (fC (.int 1))) (f2 dIx (aa 2) (fC (.int 1)))))))
 (gIf (cW (ftB (aa 10)) (ft2 dGt (au 4 (cu a) (ac (aa 0) (ac (f2 dIx (aa 6) (fC (.int 0))) (ac (f2 dIx (aa 6) (fC (.int 1))) (ac (aa 8) af))))) (fC (.int 0)))) (c7 5 (bj (ac (aa 9) (ac (f2 aP (aa 7) (aa 8)) af)))) aC)))))
 (fun ρ=>(aq 3 (fFz (aa 5))) (frzAt 5 ρ)))))
 (aK (fCB gF (ac (aL 2 [2] (aJ (aa 3)) (bw [0,1]) (ft2 dEq (aa 0) (aa 2)) (aa 1)) af)))))
noncomputable def gw (a:Ads):List D->Res D:=aN 11 (mQ a)
theorem lJ:FnScope ["parts", "here", "end", "rows", "turn", "longer", "place", "walk", "letter", "there", "inside"] ["parts", "here", "end"] (aA (top 37)):=⟨rfl,rfl,rfl,by decide +kernel,rfl,by decide +kernel,by decide +kernel⟩
theorem qJ (B:Bl K mg a) (U:Df K mg "_law_all" (top 37) ["parts", "here", "end"]) (c__law_step:Cal P w K mg base "_law_step" 4 (cu a) 1):Cal P w K mg base "_law_all" 3 (gw a) 2:=by
 refine bx (k:=1) (N:=["parts", "here", "end", "rows", "turn", "longer", "place", "walk", "letter", "there", "inside"]) U lJ fun f cdv A outer s H E Ex hE hr=>?_
 have sc:=lJ
 exact (ah (aG (i:=3) sc.nd rfl (.inl rfl) (a9 (dy (ag (dz (ag (ad 1 (mv 1)) (ag eY ai))) ai))))
  (ah (cq db rfl (dt rfl B.b_range (ag (aM br aY (aM gk (aS _ _) (aF (ad 2 (mv 2)) ak) (aF (ad 1 (mv 1)) ak)) (aQ (xf rfl) tM rfl B.b_max (by decide +kernel) (ag ak (ag (aM gk (aS _ _) (aF (ad 2 (mv 2)) ak) (aF (ad 1 (mv 1)) ak)) ai)))) ai)) (bg (i:=4) sc.nd rfl (.inl rfl)) (ah (aG (i:=5) sc.nd rfl (.inl rfl) (dy ai))
  (ah (cq db rfl (bT (ad 3 (mv 3))) (fM (is:=[6,7]) rfl (bD (i:=6) (bQ (i:=6) sc.nd rfl (.inl rfl)) (bD (i:=7) (bQ (i:=7) sc.nd rfl (.inl rfl)) eN))) (ar (cq db rfl (bT eY) (bg (i:=8) sc.nd rfl (.inl rfl)) (ah (aG (i:=9) sc.nd rfl (.inl rfl) (a9 (dz (ag (aM br aY (aF (ad 6 (mv 6)) ak) (cR tN pD rfl B.b_int (by decide +kernel) (ag (iF (eo (hu4 hr)) cS (ad 8 (mv 8)) eY (aO _)) ai))) (ag (aM br aY (aF (ad 6 (mv 6)) ak) (cR tN pD rfl B.b_int (by decide +kernel) (ag (iF (eo (hu4 hr)) cS (ad 8 (mv 8)) eY (aO _)) ai))) ai)))))
  (ah (aG (i:=10) sc.nd rfl (.inl rfl) (a9 (km (iF rT (aS _ _) (aF (ad 9 (mv 9)) ak) (aF (ad 2 (mv 2)) ak) (aO _)) (mt (iF rT (aS _ _) (aF (ad 9 (mv 9)) ak) (aF (ad 2 (mv 2)) ak) (aO _))))))
  (ar (bt (FW.ft (gY (kg (ad 10 (mv 10))) (ge (aT k6 (aS _ _) (aI c__law_step (bc hE) (hr.mono (by decide)) rfl (ag (ad 0 (mv 0)) (ag (aF (ad 6 (mv 6)) ak) (ag (aF (ad 6 (mv 6)) ak) (ag (ad 8 (mv 8)) ai))))) ak (aO _))))) (ar (gZ (mv 5) (dz (ag (ad 9 (mv 9)) (ag (aM br aY (ad 7 (mv 7)) (ad 8 (mv 8))) ai))))) aX)))))))
  (ar (mo 5 (aG (i:=3) sc.nd rfl (.inl rfl) (a9 (ad 5 (mv 5)))))))))
  (ar (aU (aQ r9 pL rfl B.b_sorted (by decide +kernel) (ag (dI rfl (CompScope.of (own:=["place", "walk"]) (cap:=[("end", 2)]) rfl (by decide +kernel) rfl rfl (by decide +kernel)) (bT (ad 3 (mv 3))) (fun C cells s0 H0 ex pn hN=>⟨(fM (is:=[0,1]) rfl (bD (i:=0) (bQ (i:=0) hN rfl (by first | exact Or.inl rfl | exact Or.inr rfl)) (bD (i:=1) (bQ (i:=1) hN rfl (by first | exact Or.inl rfl | exact Or.inr rfl)) eN))),(nE (aT (eo (hu4 hr)) cS (ad 0 (mv 0)) (ad 2 (mv 2)) (aO _))),(ad 1 (mv 1))⟩)) ai))))))
noncomputable def fZ (a:Ads):ae->FOut:=
 (ao (aq 2 (fFz (fCB aR (ac (f2 dIx (f2 dIx (aa 0) (fC (.int 0))) (fC (.int 0))) af))))
 (ao (aq 3 (fFz (bd (ac (bj (ac (bd af) (ac (bd af) af))) af))))
 (ao (bH (aJ (f2 dIx (aa 0) (fC (.int 2)))) (av 4) (ao (aq 5 (bd af))
 (ao (bH (aJ (f2 dIx (aa 0) (fC (.int 3)))) (av 6) (c7 5 (fIf (ft2 dGe (aa 6) (aa 4)) (au 3 (gw a) (ac (aa 0) (ac (bj (ac (fC (.int 0)) (ac (aa 4) af))) (ac (bj (ac (aa 2) (ac (aa 6) af))) af)))) (bd af))))
 (ao (aq 7 (bd af))
 (ao (fun ρ=>(bH (aJ (aa 3)) (bw [8,9]) (bH (dN (ac (aa 5) af)) (bw [10,11]) (gIf (cW (ft2 (dIn true) (aa 10) (aa 9)) (ft2 dLe (fCB aR (ac (aa 7) af)) (aa 1))) (iy 7 (aL 1 [8,9,10] (aJ (aa 11)) (av 0) a8 (bj (ac (f2 aP (aa 1) (bd (ac (aa 0) af))) (ac (f2 aP (aa 2) (bd (ac (aa 3) af))) af))))) aC))) (frzAt 5 ρ))
 (ao (fun ρ=>(aq 3 (fFz (aa 7))) (frzAt 7 ρ))
 (gIf (ft2 dGt (fCB aR (ac (aa 3) af)) (aa 1)) (aK (fC .non)) aC)))))))
 (aK (aa 3)))))
noncomputable def ck (a:Ads):List D->Res D:=aN 12 (fZ a)
theorem ii:FnScope ["parts", "most", "columns", "rows", "start", "lists", "end", "longer", "company", "used", "k", "texts"] ["parts", "most"] (aA (top 38)):=⟨rfl,rfl,rfl,by decide +kernel,rfl,by decide +kernel,by decide +kernel⟩
theorem lv (B:Bl K mg a) (U:Df K mg "_law_companies" (top 38) ["parts", "most"]) (c__law_all:Cal P w K mg base "_law_all" 3 (gw a) 2):Cal P w K mg base "_law_companies" 2 (ck a) 3:=by
 refine bx (k:=2) (N:=["parts", "most", "columns", "rows", "start", "lists", "end", "longer", "company", "used", "k", "texts"]) U ii fun f cdv A outer s H E Ex hE hr=>?_
 have sc:=ii
 exact (ah (aG (i:=2) sc.nd rfl (.inl rfl) (a9 (aQ bA ba rfl B.b_len (by decide +kernel) (ag (aF (aF (ad 0 (mv 0)) ak) ak) ai))))
  (ah (aG (i:=3) sc.nd rfl (.inl rfl) (a9 (dy (ag (dz (ag (dy ai) (ag (dy ai) ai))) ai))))
  (ah (cq db rfl (bT (aF (ad 0 (mv 0)) ak)) (bg (i:=4) sc.nd rfl (.inl rfl)) (ah (aG (i:=5) sc.nd rfl (.inl rfl) (dy ai))
  (ah (cq db rfl (bT (aF (ad 0 (mv 0)) ak)) (bg (i:=6) sc.nd rfl (.inl rfl)) (ar (gZ (mv 5) (pB (aT Ab (aS _ _) (ad 6 (mv 6)) (ad 4 (mv 4)) (aO _)) (aI c__law_all (bc hE) (hr.mono (by decide)) rfl (ag (ad 0 (mv 0)) (ag (dz (ag ak (ag (ad 4 (mv 4)) ai))) (ag (dz (ag (ad 2 (mv 2)) (ag (ad 6 (mv 6)) ai))) ai)))) (dy ai)))))
  (ah (aG (i:=7) sc.nd rfl (.inl rfl) (dy ai))
  (ah (mo 5 (cq db rfl (bT (ad 3 (mv 3))) (fM (is:=[8,9]) rfl (bD (i:=8) (bQ (i:=8) sc.nd rfl (.inr rfl)) (bD (i:=9) (bQ (i:=9) sc.nd rfl (.inr rfl)) eN))) (ar (cq db rfl (jl rfl B.b_enumerate (ag (ad 5 (mv 5)) ai)) (fM (is:=[10,11]) rfl (bD (i:=10) (bQ (i:=10) sc.nd rfl (.inr rfl)) (bD (i:=11) (bQ (i:=11) sc.nd rfl (.inl rfl)) eN))) (ar (bt (FW.ft (gY (aT (pM (hu4 hr)) (lf _) (ad 10 (mv 10)) (ad 9 (mv 9)) rfl) (ge (aT rT (aS _ _) (aQ bA ba rfl B.b_len (by decide +kernel) (ag (ad 7 (mv 7)) ai)) (ad 1 (mv 1)) (aO _))))) (ar (um (mv 7) (dI rfl (CompScope.of (own:=["walk"]) (cap:=[("company", 8),("used", 9),("k", 10)]) rfl (by decide +kernel) rfl rfl (by decide +kernel)) (bT (ad 11 (mv 11))) (fun C cells s0 H0 ex pn hN=>⟨(bg (i:=0) hN rfl (by first | exact Or.inl rfl | exact Or.inr rfl)),cF,(dz (ag (aM br aY (ad 1 (mv 1)) (dy (ag (ad 0 (mv 0)) ai))) (ag (aM br aY (ad 2 (mv 2)) (dy (ag (ad 3 (mv 3)) ai))) ai)))⟩)))) aX))))))
  (ah (mo 7 (aG (i:=3) sc.nd rfl (.inl rfl) (a9 (ad 7 (mv 7)))))
  (ar (bt (aT k6 (aS _ _) (aQ bA ba rfl B.b_len (by decide +kernel) (ag (ad 3 (mv 3)) ai)) (ad 1 (mv 1)) (aO _)) (ar (aU dL)) aX))))))))
  (ar (aU (ad 3 (mv 3)))))))
noncomputable def j6 (a:Ads):ae->FOut:=
 (aK (aL 2 [0] (my (ac (f2 dIx (aa 0) (fC (.int 2))) (ac (aa 1) af))) (bw [0,1]) a8 (f2 dIx (bU 4 (eQ a) (ac (aa 2) (ac (fC (.int 0)) (ac (aa 0) (ac (aa 1) af))))) (fC (.int 0)))))
noncomputable def cg (a:Ads):List D->Res D:=aN 2 (j6 a)
theorem jq:FnScope ["parts", "company"] ["parts", "company"] (aA (top 39)):=⟨rfl,rfl,rfl,by decide +kernel,rfl,by decide +kernel,by decide +kernel⟩
theorem nJ (B:Bl K mg a) (U:Df K mg "_law_places" (top 39) ["parts", "company"]) (c__law_went:Cal P w K mg base "_law_went" 4 (eQ a) 2):Cal P w K mg base "_law_places" 2 (cg a) 3:=by
 refine bx (k:=2) (N:=["parts", "company"]) U jq fun f cdv A outer s H E Ex hE hr=>?_
 have sc:=jq
 exact (ar (aU (dI rfl (CompScope.of (own:=["start", "walk"]) (cap:=[("parts", 0)]) rfl (by decide +kernel) rfl rfl (by decide +kernel)) (xo rfl B.b_zip (ag (aF (ad 0 (mv 0)) ak) (ag (ad 1 (mv 1)) ai))) (fun C cells s0 H0 ex pn hN=>⟨(fM (is:=[0,1]) rfl (bD (i:=0) (bQ (i:=0) hN rfl (by first | exact Or.inl rfl | exact Or.inr rfl)) (bD (i:=1) (bQ (i:=1) hN rfl (by first | exact Or.inl rfl | exact Or.inr rfl)) eN))),cF,(aF (fY c__law_went (hr.mono (by decide)) rfl (ag (ad 2 (mv 2)) (ag ak (ag (ad 0 (mv 0)) (ag (ad 1 (mv 1)) ai))))) ak)⟩))))
noncomputable def lK (a:Ads):ae->FOut:=
 (ao (aq 1 sd)
 (ao (bH (aJ (aa 0)) (av 2) (bH (aJ (aa 2)) (av 3) (ao (gIf (ft2 ku (aa 3) (aa 1)) (aK (fC (.bl false))) aC)
 (mD 1 (aa 3) (.bl true)))))
 (aK (fC (.bl true)))))
noncomputable def dX (a:Ads):List D->Res D:=aN 4 (lK a)
theorem kE:FnScope ["rows", "seen", "row", "place"] ["rows"] (aA (top 40)):=⟨rfl,rfl,rfl,by decide +kernel,rfl,by decide +kernel,by decide +kernel⟩
theorem pT (B:Bl K mg a) (U:Df K mg "_law_lone" (top 40) ["rows"])  : Cal P w K mg base "_law_lone" 1 (dX a) 1:=by
 refine bx (k:=0) (N:=["rows", "seen", "row", "place"]) U kE fun f cdv A outer s H E Ex hE hr=>?_
 have sc:=kE
 exact (ah (aG (i:=1) sc.nd rfl (.inl rfl) xt)
  (ah (cq db rfl (bT (ad 0 (mv 0))) (bg (i:=2) sc.nd rfl (.inl rfl)) (ar (cq db rfl (bT (ad 2 (mv 2))) (bg (i:=3) sc.nd rfl (.inl rfl)) (ah (bt (aT (za (hu4 hr)) vJ (ad 3 (mv 3)) (ad 1 (mv 1)) rfl) (ar (aU kZ)) aX)
  (ar (xu (hu4 hr) (mv 1) wo (fun _=>.bl) (ad 3 (mv 3))))))))
  (ar (aU kZ))))
noncomputable def kF (a:Ads):ae->FOut:=
 (aK (iH (f1 (lX "list") (aa 0)) (iH (f2 dEq (fCB aR (ac (aa 0) af)) (aa 1)) (fCB jc (ac (aL 1 [] (aJ (aa 0)) (av 0) a8 (f1 (lX "str") (aa 0))) af)))))
noncomputable def fu (a:Ads):List D->Res D:=aN 2 (kF a)
theorem j7:FnScope ["found", "many"] ["found", "many"] (aA (top 41)):=⟨rfl,rfl,rfl,by decide +kernel,rfl,by decide +kernel,by decide +kernel⟩
theorem oV (B:Bl K mg a) (U:Df K mg "_law_texts" (top 41) ["found", "many"])  : Cal P w K mg base "_law_texts" 2 (fu a) 1:=by
 refine bx (k:=0) (N:=["found", "many"]) U j7 fun f cdv A outer s H E Ex hE hr=>?_
 have sc:=j7
 exact (ar (aU (km (tT B.k_list (ad 0 (mv 0)) rfl B.b_isinstance rfl B.b_list (by decide +kernel)) (km (iF (eo (hu4 hr)) cS (aQ bA ba rfl B.b_len (by decide +kernel) (ag (ad 0 (mv 0)) ai)) (ad 1 (mv 1)) (aO _)) (mt (aQ (tW rfl) pJ rfl B.b_all (by decide +kernel) (ag (dI rfl (CompScope.of (own:=["walk"]) (cap:=[]) rfl (by decide +kernel) rfl rfl (by decide +kernel)) (bT (ad 0 (mv 0))) (fun C cells s0 H0 ex pn hN=>⟨(bg (i:=0) hN rfl (by first | exact Or.inl rfl | exact Or.inr rfl)),cF,(tT B.k_str (ad 0 (mv 0)) rfl B.b_isinstance rfl B.b_str (by decide +kernel))⟩)) ai)))))))
noncomputable def mR (a:Ads):ae->FOut:=
 (ao (bH (bW (ac (fCB aR (ac (aa 0) af)) af)) (av 2) (bH (dN (ac (f2 dIx (aa 0) (aa 2)) af)) (bw [3,4]) (ao (aq 5 (fFz (aL 1 [0,2,4] (bW (ac (fCB aR (ac (aa 0) af)) af)) (av 0) (cW (ft2 dNe (aa 0) (aa 2)) (ft2 (dIn false) (aa 3) (f2 dIx (aa 1) (aa 0)))) (aa 0))))
 (gIf (ft2 dGt (fCB aR (ac (aa 5) af)) (fC (.int 0))) (ao (aq 6 (fFz (f2 dIx (aa 5) (fC (.int 0)))))
 (ao (aq 7 (fFz (iz (f2 dIx (aa 0) (aa 6)) (aa 4))))
 (ao (aq 8 (fCB bz (ac (aa 1) af)))
 (ao (eK 8 (aa 2) (f2 aP (fSl (f2 dIx (aa 1) (aa 2)) foN (foS (aa 3))) (fSl (f2 dIx (aa 1) (aa 6)) (foS (aa 7)) foN)))
 (ao (eK 8 (aa 6) (f2 aP (fSl (f2 dIx (aa 1) (aa 6)) foN (foS (aa 7))) (fSl (f2 dIx (aa 1) (aa 2)) (foS (aa 3)) foN)))
 (jF 8)))))) aC))))
 (aK (fC .non)))
noncomputable def gx (a:Ads):List D->Res D:=aN 9 (mR a)
theorem lL:FnScope ["rows", "company", "i", "one", "place", "others", "j", "other", "made"] ["rows", "company"] (aA (top 42)):=⟨rfl,rfl,rfl,by decide +kernel,rfl,by decide +kernel,by decide +kernel⟩
theorem qK (B:Bl K mg a) (U:Df K mg "_law_due" (top 42) ["rows", "company"])  : Cal P w K mg base "_law_due" 2 (gx a) 1:=by
 refine bx (k:=0) (N:=["rows", "company", "i", "one", "place", "others", "j", "other", "made"]) U lL fun f cdv A outer s H E Ex hE hr=>?_
 have sc:=lL
 exact (ah (cq db rfl (dt rfl B.b_range (ag (aQ bA ba rfl B.b_len (by decide +kernel) (ag (ad 0 (mv 0)) ai)) ai)) (bg (i:=2) sc.nd rfl (.inr rfl)) (ar (cq db rfl (jl rfl B.b_enumerate (ag (aF (ad 0 (mv 0)) (ad 2 (mv 2))) ai)) (fM (is:=[3,4]) rfl (bD (i:=3) (bQ (i:=3) sc.nd rfl (.inl rfl)) (bD (i:=4) (bQ (i:=4) sc.nd rfl (.inr rfl)) eN))) (ah (gE (ek (i:=5) sc.nd rfl (.inl rfl) rfl (CompScope.of (own:=["j"]) (cap:=[("rows", 0),("i", 2),("place", 4)]) rfl (by decide +kernel) rfl rfl (by decide +kernel)) (dt rfl B.b_range (ag (aQ bA ba rfl B.b_len (by decide +kernel) (ag (ad 0 (mv 0)) ai)) ai)) (fun C cells s0 H0 ex pn hN=>⟨(bg (i:=0) hN rfl (by first | exact Or.inl rfl | exact Or.inr rfl)),(nE (FW.ft (gY (aT (mC (hu4 hr)) jk (ad 0 (mv 0)) (ad 2 (mv 2)) (aO _)) (ge (aT (wx (hu4 hr)) (lf _) (ad 3 (mv 3)) (aF (ad 1 (mv 1)) (ad 0 (mv 0))) rfl))))),(ad 0 (mv 0))⟩)))
  (ar (bt (aT k6 (aS _ _) (aQ bA ba rfl B.b_len (by decide +kernel) (ag (ad 5 (mv 5)) ai)) ak (aO _)) (ah (aG (i:=6) sc.nd rfl (.inl rfl) (a9 (aF (ad 5 (mv 5)) ak)))
  (ah (aG (i:=7) sc.nd rfl (.inl rfl) (a9 (uw (hu4 hr) (aF (ad 0 (mv 0)) (ad 6 (mv 6))) (ad 4 (mv 4)))))
  (ah (aG (i:=8) sc.nd rfl (.inl rfl) (cR dY cY rfl B.b_list (by decide +kernel) (ag (ad 1 (mv 1)) ai)))
  (ah (jI (mv 8) (aM br aY (fj (aF (ad 1 (mv 1)) (ad 2 (mv 2))) gf (gh (ad 3 (mv 3)))) (fj (aF (ad 1 (mv 1)) (ad 6 (mv 6))) (gh (ad 7 (mv 7))) gf)) (ad 2 (mv 2)))
  (ah (jI (mv 8) (aM br aY (fj (aF (ad 1 (mv 1)) (ad 6 (mv 6))) gf (gh (ad 7 (mv 7)))) (fj (aF (ad 1 (mv 1)) (ad 2 (mv 2))) (gh (ad 3 (mv 3))) gf)) (ad 6 (mv 6)))
  (ar (nD 8 (mv 8)))))))) aX))))))
  (ar (aU dL)))
noncomputable def g_law (a:Ads):ae->FOut:=
 (ao (aq 1 (fFz (au 4 (de a) (ac (aa 0) (ac (fC (.int 4)) (ac (fC (.int 3)) (ac (fC (.int 8)) af)))))))
 (ao (aq 2 (fFz (au 1 (ip a) (ac (aa 1) af))))
 (ao (aq 3 (fFz (au 2 (ck a) (ac (aa 1) (ac (fC (.int 400)) af)))))
 (ao (gIf (fV (ft2 (dS false) (aa 3) (fC .non)) (ft2 dEq (fCB aR (ac (aa 3) af)) (fC (.int 0)))) (aK (fC (.bl true))) aC)
 (ao (aq 4 (fFz (aL 2 [] (aJ (aa 3)) (bw [0,1]) a8 (aa 0))))
 (ao (gIf (ft2 dGt (f2 cX (au 2 (az a) (ac (aa 0) (ac (fC (.int 9)) af))) (fC (.int 3))) (fC (.int 0))) (ao (aq 5 (fFz (aL 1 [1] (aJ (aa 4)) (av 0) (bh (ftB (bU 1 (dX a) (ac (bU 2 (cg a) (ac (aa 1) (ac (aa 0) af))) af)))) (aa 0))))
 (gIf (ft2 dGt (fCB aR (ac (aa 5) af)) (fC (.int 0))) (aq 4 (fFz (aa 5))) aC)) aC)
 (ao (aq 6 (fFz (f2 dIx (aa 4) (f2 cX (au 2 (az a) (ac (aa 0) (ac (fC (.int 8)) af))) (fCB aR (ac (aa 4) af))))))
 (ao (aq 7 (fFz (au 2 (gx a) (ac (au 2 (cg a) (ac (aa 1) (ac (aa 6) af))) (ac (aa 6) af)))))
 (ao (bH (bW (ac (fC (.int 2)) af)) (av 8) (ao (aq 9 (fFz (fCB bz (ac (aa 6) af))))
 (ao (aq 10 (au 2 (dW a) (ac (aa 2) (ac (aa 9) af))))
 (ao (gIf (ft2 dNe (aa 9) (aa 6)) (aK (fC (.bl false))) aC)
 (ao (gIf (fV (ft2 (dS false) (aa 7) (fC .non)) (ft2 (dS false) (aa 10) (fC .non))) (aK (iH (f2 (dS false) (aa 7) (fC .non)) (f2 (dS false) (aa 10) (fC .non)))) aC)
 (ao (gIf (fV (bh (ftB (au 2 (fu a) (ac (aa 10) (ac (fCB aR (ac (aa 7) af)) af))))) (ft2 dNe (aa 10) (aa 7))) (aK (fC (.bl false))) aC)
 (c7 10 (fC (.str "r")))))))))
 (aK (fC (.bl true))))))))))))
noncomputable def o8 (a:Ads):List D->Res D:=aN 11 (g_law a)
theorem uA:FnScope ["script", "parts", "net", "rows", "some", "close", "company", "due", "lap", "handed", "found"] ["script"] (aA (top 43)):=⟨rfl,rfl,rfl,by decide +kernel,rfl,by decide +kernel,by decide +kernel⟩
theorem xw (B:Bl K mg a) {f:Addr} {fd:FuncData} (U:Fun K "law" "law" (top 43) f fd) (c__law_cell_at:Cal P w K mg base "_law_cell_at" 2 (az a) 1) (c__law_companies:Cal P w K mg base "_law_companies" 2 (ck a) 3) (c__law_due:Cal P w K mg base "_law_due" 2 (gx a) 1) (c__law_lone:Cal P w K mg base "_law_lone" 1 (dX a) 1) (c__law_net:Cal P w K mg base "_law_net" 1 (ip a) 4) (c__law_parts_by:Cal P w K mg base "_law_parts_by" 4 (de a) 3) (c__law_places:Cal P w K mg base "_law_places" 2 (cg a) 3) (c__law_texts:Cal P w K mg base "_law_texts" 2 (fu a) 1) (c_exchanged:Cal P w K mg base "exchanged" 2 (dW a) 6):FnOk P w K mg base (CXm P w) 7 f fd ["script"] (spF 1 (o8 a)):=by
 refine yY (k:=6) (N:=["script", "parts", "net", "rows", "some", "close", "company", "due", "lap", "handed", "found"]) U uA fun f cdv A outer s H E Ex hE hr=>?_
 have sc:=uA
 exact (ah (aG (i:=1) sc.nd rfl (.inr rfl) (a9 (aI c__law_parts_by (bc hE) (hr.mono (by decide)) rfl (ag (ad 0 (mv 0)) (ag ak (ag ak (ag ak ai)))))))
  (ah (aG (i:=2) sc.nd rfl (.inl rfl) (a9 (aI c__law_net (bc hE) (hr.mono (by decide)) rfl (ag (ad 1 (mv 1)) ai))))
  (ah (aG (i:=3) sc.nd rfl (.inl rfl) (a9 (aI c__law_companies (bc hE) (hr.mono (by decide)) rfl (ag (ad 1 (mv 1)) (ag ak ai)))))
  (ah (bt (FW.ft (ms (aT jj (fX _) (ad 3 (mv 3)) dL (aO _)) (kh (aT (eo (hu4 hr)) cS (aQ bA ba rfl B.b_len (by decide +kernel) (ag (ad 3 (mv 3)) ai)) ak (aO _))))) (ar (aU kZ)) aX)
  (ah (gE (ek (i:=4) sc.nd rfl (.inl rfl) rfl (CompScope.of (own:=["company", "ends"]) (cap:=[]) rfl (by decide +kernel) rfl rfl (by decide +kernel)) (bT (ad 3 (mv 3))) (fun C cells s0 H0 ex pn hN=>⟨(fM (is:=[0,1]) rfl (bD (i:=0) (bQ (i:=0) hN rfl (by first | exact Or.inl rfl | exact Or.inr rfl)) (bD (i:=1) (bQ (i:=1) hN rfl (by first | exact Or.inl rfl | exact Or.inr rfl)) eN))),cF,(ad 0 (mv 0))⟩)))
  (ah (bt (aT k6 (aS _ _) (aM eZ (aS _ _) (aI c__law_cell_at (bc hE) (hr.mono (by decide)) rfl (ag (ad 0 (mv 0)) (ag ak ai))) ak) ak (aO _)) (ah (gE (ek (i:=5) sc.nd rfl (.inl rfl) rfl (CompScope.of (own:=["company"]) (cap:=[("parts", 1)]) rfl (by decide +kernel) rfl rfl (by decide +kernel)) (bT (ad 4 (mv 4))) (fun C cells s0 H0 ex pn hN=>⟨(bg (i:=0) hN rfl (by first | exact Or.inl rfl | exact Or.inr rfl)),(nE (gl (kg (fY c__law_lone (hr.mono (by decide)) rfl (ag (fY c__law_places (hr.mono (by decide)) rfl (ag (ad 1 (mv 1)) (ag (ad 0 (mv 0)) ai))) ai))))),(ad 0 (mv 0))⟩)))
  (ar (bt (aT k6 (aS _ _) (aQ bA ba rfl B.b_len (by decide +kernel) (ag (ad 5 (mv 5)) ai)) ak (aO _)) (ar (aG (i:=4) sc.nd rfl (.inl rfl) (a9 (ad 5 (mv 5))))) aX))) aX)
  (ah (aG (i:=6) sc.nd rfl (.inl rfl) (a9 (aF (ad 4 (mv 4)) (aM eZ (aS _ _) (aI c__law_cell_at (bc hE) (hr.mono (by decide)) rfl (ag (ad 0 (mv 0)) (ag ak ai))) (aQ bA ba rfl B.b_len (by decide +kernel) (ag (ad 4 (mv 4)) ai))))))
  (ah (aG (i:=7) sc.nd rfl (.inl rfl) (a9 (aI c__law_due (bc hE) (hr.mono (by decide)) rfl (ag (aI c__law_places (bc hE) (hr.mono (by decide)) rfl (ag (ad 1 (mv 1)) (ag (ad 6 (mv 6)) ai))) (ag (ad 6 (mv 6)) ai)))))
  (ah (cq db rfl (dt rfl B.b_range (ag ak ai)) (bg (i:=8) sc.nd rfl (.inl rfl)) (ah (aG (i:=9) sc.nd rfl (.inl rfl) (a9 (cR dY cY rfl B.b_list (by decide +kernel) (ag (ad 6 (mv 6)) ai))))
  (ah (aG (i:=10) sc.nd rfl (.inl rfl) (aI c_exchanged (bc hE) (hr.mono (by decide)) rfl (ag (ad 2 (mv 2)) (ag (ad 9 (mv 9)) ai))))
  (ah (bt (aT (mC (hu4 hr)) jk (ad 9 (mv 9)) (ad 6 (mv 6)) (aO _)) (ar (aU kZ)) aX)
  (ah (bt (FW.ft (ms (aT jj (fX _) (ad 7 (mv 7)) dL (aO _)) (kh (aT jj (fX _) (ad 10 (mv 10)) dL (aO _))))) (ar (aU (km (iF jj (fX _) (ad 7 (mv 7)) dL (aO _)) (mt (iF jj (fX _) (ad 10 (mv 10)) dL (aO _)))))) aX)
  (ah (bt (FW.ft (ms (gl (kg (aI c__law_texts (bc hE) (hr.mono (by decide)) rfl (ag (ad 10 (mv 10)) (ag (aQ bA ba rfl B.b_len (by decide +kernel) (ag (ad 7 (mv 7)) ai)) ai))))) (kh (aT (mC (hu4 hr)) jk (ad 10 (mv 10)) (ad 7 (mv 7)) (aO _))))) (ar (aU kZ)) aX)
  (ar (gZ (mv 10) eY))))))))
  (ar (aU kZ)))))))))))
theorem ar1 {p:List Value->Prop} (h:∀ a:Value,p [a]):∀ us:List Value,us.length=1->p us:=by
 intro us hl
 cases us with
 | nil=>cases hl
 | cons a us =>
 cases us with
 | nil=>exact h a
 | cons z us=>simp at hl
theorem ar2 {p:List Value->Prop} (h:∀ a b:Value,p [a,b]):∀ us:List Value,us.length=2->p us:=by
 intro us hl
 cases us with
 | nil=>cases hl
 | cons a us =>
 cases us with
 | nil=>cases hl
 | cons b us =>
 cases us with
 | nil=>exact h a b
 | cons z us=>simp at hl
theorem ar3 {p:List Value->Prop} (h:∀ a b c:Value,p [a,b,c]):∀ us:List Value,us.length=3->p us:=by
 intro us hl
 cases us with
 | nil=>cases hl
 | cons a us =>
 cases us with
 | nil=>cases hl
 | cons b us =>
 cases us with
 | nil=>cases hl
 | cons c us =>
 cases us with
 | nil=>exact h a b c
 | cons z us=>simp at hl
theorem ar4 {p:List Value->Prop} (h:∀ a b c d:Value,p [a,b,c,d]):∀ us:List Value,us.length=4->p us:=by
 intro us hl
 cases us with
 | nil=>cases hl
 | cons a us =>
 cases us with
 | nil=>cases hl
 | cons b us =>
 cases us with
 | nil=>cases hl
 | cons c us =>
 cases us with
 | nil=>cases hl
 | cons d us =>
 cases us with
 | nil=>exact h a b c d
 | cons z us=>simp at hl
theorem ar5 {p:List Value->Prop} (h:∀ a b c d e:Value,p [a,b,c,d,e]):∀ us:List Value,us.length=5->p us:=by
 intro us hl
 cases us with
 | nil=>cases hl
 | cons a us =>
 cases us with
 | nil=>cases hl
 | cons b us =>
 cases us with
 | nil=>cases hl
 | cons c us =>
 cases us with
 | nil=>cases hl
 | cons d us =>
 cases us with
 | nil=>cases hl
 | cons e us =>
 cases us with
 | nil=>exact h a b c d e
 | cons z us=>simp at hl
theorem zd (main:∀ a ns,List.length ns <= 63->o8 a [.scr ns]=.ok (.bl true)) {l:PySem.W.OpenLaw} {w:World} {K:PySem.W.Frag} {h:Heap} {mg:Str->Option Value} {fa:Addr} (X:K.In h) (G:h.Ns mainGlobals mg) (hfa:mg "law" = some (.ref fa))
    {A_0 A_1 A_2 A_3:Addr}
    {f_3:Addr} {od_3 an_3:Option Addr} {sl_3:Array (Option Value)} {oc_3 kV_3 dc_3 pm_3 cd_3 ct_3:Value}
    {f_law:Addr} {od_law an_law:Option Addr} {sl_law:Array (Option Value)} {oc_law kV_law dc_law pm_law cd_law ct_law:Value}
    {t_MOST_SIDE:Tok}
    {t_MOST_WALKERS:Tok}
    {t_MOST_WEIGHT:Tok}
    (g_0:PySem.W.nsIn K mainGlobals "BadCompany" = some (some (.ref A_0)))
    (e_0:PySem.W.excIn K A_0 k9 "ValueError.__new__" = true)
    (g_1:PySem.W.nsIn K mainGlobals "BadNet" = some (some (.ref A_1)))
    (e_1:PySem.W.excIn K A_1 k9 "ValueError.__new__" = true)
    (g_2:PySem.W.nsIn K mainGlobals "BadWalk" = some (some (.ref A_2)))
    (e_2:PySem.W.excIn K A_2 k9 "ValueError.__new__" = true)
    (g_3:PySem.W.nsIn K mainGlobals "Net" = some (some (.ref A_3)))
    (i_3:PySem.W.findIn K (.ref A_3) "__init__" = some (some (.ref f_3)))
    (n_3:PySem.W.isFn K (.ref f_3)=true)
    (l_3:K.lookup f_3=some ⟨oc_3,od_3,.func (PySem.W.fnOf "__init__" "Net.__init__" (eM (jR 12 0)) (cE (jR 12 0)) (aA (jR 12 0)) .none kV_3 dc_3 pm_3 an_3 cd_3 ct_3),sl_3⟩)
    (c_3:PySem.W.codeIn K cd_3 "Net.__init__" = true)
    (k_3:PySem.W.keepIn K (.ref f_3)=true)
    (pg_3:PySem.W.plainGet K A_3 Str.empty=true)
    (hd_3:PySem.W.hasDictIn K A_3=true)
    (po_3:PySem.W.plainOver K A_3=true)
    (sa_3:PySem.W.findIn K (.ref A_3) "__setattr__" = some (some (.builtin "object.__setattr__")))
    (mk_3:PySem.W.makesIn K A_3=true)
    (kc_3:PySem.W.keepIn K (.ref A_3)=true)
    (na_Net_columns:PySem.W.findIn K (.ref A_3) "columns" = some none)
    (na_Net_ends:PySem.W.findIn K (.ref A_3) "ends" = some none)
    (na_Net_right:PySem.W.findIn K (.ref A_3) "right" = some none)
    (na_Net_rows:PySem.W.findIn K (.ref A_3) "rows" = some none)
    (na_Net_starts:PySem.W.findIn K (.ref A_3) "starts" = some none)
    (na_Net_up:PySem.W.findIn K (.ref A_3) "up" = some none)
    (U_19:Df K mg "check_side" (top 9) ["length"])
    (U_20:Df K mg "check_steps" (top 10) ["lists", "count", "length"])
    (U_18:Df K mg "check_border" (top 11) ["chosen", "rows"])
    (U_27:Df K mg "lies_on" (top 13) ["net", "x", "y"])
    (U_32:Df K mg "step_weight" (top 14) ["net", "x", "y", "letter"])
    (U_28:Df K mg "place_behind" (top 15) ["x", "y", "letter"])
    (U_29:Df K mg "places" (top 17) ["net", "x", "y", "walk"])
    (U_31:Df K mg "places_of_walker" (top 19) ["net", "walker", "walk"])
    (U_21:Df K mg "end_at" (top 20) ["net", "place"])
    (U_22:Df K mg "ends_taken" (top 21) ["net", "tracks"])
    (U_30:Df K mg "places_of_all" (top 22) ["net", "company"])
    (U_26:Df K mg "least_other" (top 23) ["tracks", "walker", "place"])
    (U_24:Df K mg "first_meeting" (top 24) ["net", "company"])
    (U_33:Df K mg "steps_to" (top 25) ["net", "walker", "place"])
    (U_23:Df K mg "exchanged" (top 26) ["net", "company"])
    (U_5:Df K mg "_law_cell_at" (top 28) ["script", "k"])
    (U_9:Df K mg "_law_mix" (top 29) ["cell", "k", "many"])
    (U_13:Df K mg "_law_rows_by" (top 31) ["cell", "many", "rows"])
    (U_15:Df K mg "_law_step_by" (top 32) ["cell", "k", "shut"])
    (U_11:Df K mg "_law_parts_by" (top 33) ["script", "most", "walkers", "shut"])
    (U_10:Df K mg "_law_net" (top 34) ["parts"])
    (U_14:Df K mg "_law_step" (top 35) ["parts", "x", "y", "letter"])
    (U_17:Df K mg "_law_went" (top 36) ["parts", "x", "y", "walk"])
    (U_4:Df K mg "_law_all" (top 37) ["parts", "here", "end"])
    (U_6:Df K mg "_law_companies" (top 38) ["parts", "most"])
    (U_12:Df K mg "_law_places" (top 39) ["parts", "company"])
    (U_8:Df K mg "_law_lone" (top 40) ["rows"])
    (U_16:Df K mg "_law_texts" (top 41) ["found", "many"])
    (U_7:Df K mg "_law_due" (top 42) ["rows", "company"])
    (g_law:PySem.W.nsIn K mainGlobals "law" = some (some (.ref f_law)))
    (l_law:K.lookup f_law=some ⟨oc_law,od_law,.func (PySem.W.fnOf "law" "law" (eM (top 43)) (cE (top 43)) (aA (top 43)) .none kV_law dc_law pm_law an_law cd_law ct_law),sl_law⟩)
    (c_law:PySem.W.codeIn K cd_law "law" = true)
    (k_law:PySem.W.keepIn K (.ref f_law)=true)
    (b_all:PySem.W.nsIn K mainGlobals "all" = some none)
    (b_enumerate:PySem.W.nsIn K mainGlobals "enumerate" = some none)
    (b_int:PySem.W.nsIn K mainGlobals "int" = some none)
    (b_isinstance:PySem.W.nsIn K mainGlobals "isinstance" = some none)
    (b_len:PySem.W.nsIn K mainGlobals "len" = some none)
    (b_list:PySem.W.nsIn K mainGlobals "list" = some none)
    (b_max:PySem.W.nsIn K mainGlobals "max" = some none)
    (b_min:PySem.W.nsIn K mainGlobals "min" = some none)
    (b_range:PySem.W.nsIn K mainGlobals "range" = some none)
    (b_set:PySem.W.nsIn K mainGlobals "set" = some none)
    (b_sorted:PySem.W.nsIn K mainGlobals "sorted" = some none)
    (b_str:PySem.W.nsIn K mainGlobals "str" = some none)
    (b_zip:PySem.W.nsIn K mainGlobals "zip" = some none)
    (v_MOST_SIDE:PySem.W.nsIn K mainGlobals "MOST_SIDE" = some (some (.int 8 t_MOST_SIDE)))
    (v_MOST_WALKERS:PySem.W.nsIn K mainGlobals "MOST_WALKERS" = some (some (.int 4 t_MOST_WALKERS)))
    (v_MOST_WEIGHT:PySem.W.nsIn K mainGlobals "MOST_WEIGHT" = some (some (.int 1000 t_MOST_WEIGHT)))
    (kt_list_NoneType:PySem.W.kitOne K (.type "NoneType") (.type "list")=some false)
    (kt_list_bool:PySem.W.kitOne K (.type "bool") (.type "list")=some false)
    (kt_list_int:PySem.W.kitOne K (.type "int") (.type "list")=some false)
    (kt_list_str:PySem.W.kitOne K (.type "str") (.type "list")=some false)
    (kt_list_list:PySem.W.kitOne K (.type "list") (.type "list")=some true)
    (kt_list_tuple:PySem.W.kitOne K (.type "tuple") (.type "list")=some false)
    (kt_list_dict:PySem.W.kitOne K (.type "dict") (.type "list")=some false)
    (kt_str_NoneType:PySem.W.kitOne K (.type "NoneType") (.type "str")=some false)
    (kt_str_bool:PySem.W.kitOne K (.type "bool") (.type "str")=some false)
    (kt_str_int:PySem.W.kitOne K (.type "int") (.type "str")=some false)
    (kt_str_str:PySem.W.kitOne K (.type "str") (.type "str")=some true)
    (kt_str_list:PySem.W.kitOne K (.type "list") (.type "str")=some false)
    (kt_str_tuple:PySem.W.kitOne K (.type "tuple") (.type "str")=some false)
    (kt_str_dict:PySem.W.kitOne K (.type "dict") (.type "str")=some false)
    (nl:kr K=true) :
    ∃ Fl:List D->Res D,(∀ ns:List Int,ns.length <= 63->Fl [.scr ns]=.ok (.bl true))/\kr K=true/\∃ fd:FuncData,(∀ (s:Shared) (v:Value),BindsTo s fd ⟨[v],[]⟩ [("script", v)])/\∀ base:Heap,K.In base->base.Ns mainGlobals mg->FnOk l.prog w K mg base (CXm l.prog w) 7 fa fd ["script"] (spF 1 Fl):=by
 have B:Bl K mg ⟨A_0,A_1,A_2,A_3⟩:=⟨PySem.W.mg_none_of X G b_all,PySem.W.mg_none_of X G b_enumerate,PySem.W.mg_none_of X G b_int,PySem.W.mg_none_of X G b_isinstance,PySem.W.mg_none_of X G b_len,PySem.W.mg_none_of X G b_list,PySem.W.mg_none_of X G b_max,PySem.W.mg_none_of X G b_min,PySem.W.mg_none_of X G b_range,PySem.W.mg_none_of X G b_set,PySem.W.mg_none_of X G b_sorted,PySem.W.mg_none_of X G b_str,PySem.W.mg_none_of X G b_zip,⟨_,PySem.W.mg_of X G v_MOST_SIDE⟩,⟨_,PySem.W.mg_of X G v_MOST_WALKERS⟩,⟨_,PySem.W.mg_of X G v_MOST_WEIGHT⟩,kt7 kt_list_NoneType kt_list_bool kt_list_int kt_list_str kt_list_list kt_list_tuple kt_list_dict,kt7 kt_str_NoneType kt_str_bool kt_str_int kt_str_str kt_str_list kt_str_tuple kt_str_dict,lZ X G g_0 e_0,lZ X G g_1 e_1,lZ X G g_2 e_2,⟨pg_3,hd_3,po_3,sa_3⟩,na_Net_columns,na_Net_ends,na_Net_right,na_Net_rows,na_Net_starts,na_Net_up⟩
 have F_Net:=mi (st:=jR 12 0) l_3 c_3 k_3
 have b_Net:=F_Net.binds (ps:=["self", "right", "up", "starts", "ends"]) (fun _ _ _ _ _ _=>ar5 fun _ _ _ _ _=>rfl)
 have e:=hfa.symm.trans (PySem.W.mg_of X G g_law)
 cases e
 have UL:=mi (st:=top 43) l_law c_law k_law
 refine ⟨o8 ⟨A_0,A_1,A_2,A_3⟩,main ⟨A_0,A_1,A_2,A_3⟩,nl,PySem.W.fnOf "law" "law" (eM (top 43)) (cE (top 43)) (aA (top 43)) .none kV_law dc_law pm_law an_law cd_law ct_law,fun s v=>.of_eq rfl,fun base _ _=>?_⟩
 have C_19:=oS (P:=l.prog) (w:=w) (base:=base) B U_19 
 have C_20:=nG (P:=l.prog) (w:=w) (base:=base) B U_20 
 have C_18:=mF (P:=l.prog) (w:=w) (base:=base) B U_18 
 have C_3:=zb (P:=l.prog) (w:=w) (base:=base) B ⟨f_3,_,F_Net,PySem.W.mg_of X G g_3,⟨mk_3,i_3,n_3,kc_3⟩,b_Net⟩ C_18 C_19 C_20
 have C_27:=sg (P:=l.prog) (w:=w) (base:=base) B U_27 
 have C_32:=nH (P:=l.prog) (w:=w) (base:=base) B U_32 
 have C_28:=mI (P:=l.prog) (w:=w) (base:=base) B U_28 
 have C_29:=uy (P:=l.prog) (w:=w) (base:=base) B U_29 C_27 C_28 C_32
 have C_31:=j8 (P:=l.prog) (w:=w) (base:=base) B U_31 C_29
 have C_21:=uz (P:=l.prog) (w:=w) (base:=base) B U_21 
 have C_22:=oU (P:=l.prog) (w:=w) (base:=base) B U_22 C_21
 have C_30:=l6 (P:=l.prog) (w:=w) (base:=base) B U_30 C_22 C_31
 have C_26:=nI (P:=l.prog) (w:=w) (base:=base) B U_26 
 have C_24:=l7 (P:=l.prog) (w:=w) (base:=base) B U_24 C_26 C_30
 have C_33:=qG (P:=l.prog) (w:=w) (base:=base) B U_33 
 have C_23:=pQ (P:=l.prog) (w:=w) (base:=base) B U_23 C_24 C_33
 have C_5:=mK (P:=l.prog) (w:=w) (base:=base) B U_5 
 have C_9:=qH (P:=l.prog) (w:=w) (base:=base) B U_9 
 have C_13:=mM (P:=l.prog) (w:=w) (base:=base) B U_13 C_9
 have C_15:=mO (P:=l.prog) (w:=w) (base:=base) B U_15 C_9
 have C_11:=l8 (P:=l.prog) (w:=w) (base:=base) B U_11 C_5 C_13 C_15
 have C_10:=qI (P:=l.prog) (w:=w) (base:=base) B U_10 C_3
 have C_14:=pR (P:=l.prog) (w:=w) (base:=base) B U_14 
 have C_17:=pS (P:=l.prog) (w:=w) (base:=base) B U_17 C_14
 have C_4:=qJ (P:=l.prog) (w:=w) (base:=base) B U_4 C_14
 have C_6:=lv (P:=l.prog) (w:=w) (base:=base) B U_6 C_4
 have C_12:=nJ (P:=l.prog) (w:=w) (base:=base) B U_12 C_17
 have C_8:=pT (P:=l.prog) (w:=w) (base:=base) B U_8 
 have C_16:=oV (P:=l.prog) (w:=w) (base:=base) B U_16 
 have C_7:=qK (P:=l.prog) (w:=w) (base:=base) B U_7 
 exact xw (P:=l.prog) (w:=w) (base:=base) B UL C_5 C_6 C_7 C_8 C_10 C_11 C_12 C_16 C_23
end Lw
namespace Lw
open PySem L2 Mi
noncomputable abbrev vS (s:String) (t:Tok):Value:=.str (.ofString s) t
noncomputable abbrev eS (P:Params) (s:String) (t:Tok) (v:Value):DictEntry:=⟨PyData.keyHash P (.ofString s),.str (.ofString s) t,v⟩
noncomputable abbrev fD (n q:String) (st:Stmt) (dV kV doc pm:Value) (an:Option Addr) (cdv ct:Value):FuncData:=PySem.W.fnOf (.ofString n) (.ofString q) (eM st) (cE st) (aA st) dV kV doc pm an cdv ct
noncomputable abbrev fO (n q:String) (st:Stmt) (m:String) (t c:Nat):Obj:=⟨.type "function", none,.func (fD n q st .none .none .none (vS m t) none (.ref c) .none),#[]⟩
noncomputable abbrev tO (l:List Value):Obj:=⟨.type "tuple", none,.seq l.toArray 0,#[]⟩
noncomputable abbrev cO (n:String) (t1:Nat) (q:String) (t2 t3 l c r1 r2:Nat) (a b d e:Value) (i j t4:Nat):Obj:=⟨.type "code", none,.fields #[vS n t1,vS q t2,vS "/claim/cut.py" t3,.int l 0,.int c 0,.int 0 0,.int 0 0,.int 3 0,.ref r1,.bool true,.int 181 0,.ref r2,a,b,d,e,.int i 0,.int j 0,vS "/claim/cut.py" t4],#[]⟩
noncomputable def khKeep:List Nat:=[1,2,3,4,6,7,8,9,10,11,12,13,14,15,17,19,20,21,22,23,24,25,26,28,29,30,31,32,33,34,35,36,37,38,39,40,41,42,43]
noncomputable def khN:Nat:=4226
noncomputable def pU:List Nat:=2::3::15::22::23::24::25::28::35::36::37::40::47::48::49::52::59::60::61::64::66::67::69::70::71::74::75::76::78::79::81::82::90::93::94::95::96::97::98::99::102::104::105::107::108::109::111::112::114::115::116::118::119::121::122::123::125::126::128::129::130::132::133::135::136::137::139::140::142::143::144::147::148::149::152::153::154::156::157::159::160::161::163::164::166::167::168::170::171::173::174::175::177::178::180::181::182::184::185::187::188::189::191::192::194::195::203::205::206::208::209::210::212::213::215::216::217::220::221::222::225::226::227::229::230::232::233::234::236::237::239::240::241::244::245::246::249::250::251::254::255::256::258::259::261::262::263::266::267::268::271::272::273::276::277::[]
noncomputable def ko2 (P:Params):Obj:=⟨.none,none,.dict #[] 0,#[]⟩
noncomputable def ko3 (P:Params):Obj:=⟨.type "dict", none,.dict #[eS P "__name__" 165 (vS "law_lonewalks_k09_tails_exchanged" 439),eS P "__doc__" 166 .none,eS P "__package__" 167 .none,eS P "__loader__" 168 (.builtin "__main__.__loader__#opaque"),eS P "__spec__" 169 .none,eS P "__annotations__" 170 (.ref 6),eS P "__builtins__" 171 (.ref 4),eS P "__file__" 173 (vS "/claim/cut.py" 172),eS P "__cached__" 174 .none,eS P "WalkError" 206 (.ref 24),eS P "BadNet" 222 (.ref 37),eS P "BadWalk" 238 (.ref 49),eS P "BadCompany" 254 (.ref 61),eS P "MOST_SIDE" 258 (.int 8 257),eS P "MOST_WEIGHT" 260 (.int 1000 259),eS P "MOST_WALKERS" 262 (.int 4 261),eS P "check_side" 269 (.ref 70),eS P "check_steps" 275 (.ref 75),eS P "check_border" 285 (.ref 82),eS P "Net" 317 (.ref 97),eS P "lies_on" 326 (.ref 108),eS P "step_weight" 336 (.ref 115),eS P "place_behind" 345 (.ref 122),eS P "places" 360 (.ref 129),eS P "places_of_walker" 371 (.ref 136),eS P "end_at" 379 (.ref 143),eS P "ends_taken" 385 (.ref 148),eS P "places_of_all" 391 (.ref 153),eS P "least_other" 402 (.ref 160),eS P "first_meeting" 415 (.ref 167),eS P "steps_to" 424 (.ref 174),eS P "exchanged" 438 (.ref 181),eS P "_law_cell_at" 448 (.ref 188),eS P "_law_mix" 459 (.ref 195),eS P "_law_whole" 466 (.ref 202),eS P "_law_rows_by" 478 (.ref 209),eS P "_law_step_by" 488 (.ref 216),eS P "_law_parts_by" 494 (.ref 221),eS P "_law_net" 500 (.ref 226),eS P "_law_step" 510 (.ref 233),eS P "_law_went" 524 (.ref 240),eS P "_law_all" 530 (.ref 245),eS P "_law_companies" 536 (.ref 250),eS P "_law_places" 542 (.ref 255),eS P "_law_lone" 552 (.ref 262),eS P "_law_texts" 558 (.ref 267),eS P "_law_due" 564 (.ref 272),eS P "law" 570 (.ref 277)] 48,#[]⟩
noncomputable def CN (P:Params):Obj:=tO [.type "ValueError"]
noncomputable def CO (P:Params):Obj:=tO []
noncomputable def CP (P:Params):Obj:=⟨.type "dict", none,.dict #[eS P "__module__" 196 (vS "lonewalks.errors" 187),eS P "__firstlineno__" 200 (.int 2 199),eS P "__static_attributes__" 201 (.ref 22),eS P "__weakref__" 203 (.ref 25),eS P "__doc__" 204 .none] 3,#[]⟩
noncomputable def CQ (P:Params):Obj:=⟨.type "type", none,.cls ⟨.ofString "WalkError", [.type "ValueError"],[.ref 24,.type "ValueError", .type "Exception", .type "BaseException", .type "object"],23,.ofString "WalkError", true,[],[.ref 37,.ref 49,.ref 61],false,none,false⟩,#[(some (.ref 15)),none,(some (vS "WalkError" 189)),(some (vS "WalkError" 197)),(some (.builtin "ValueError.__new__")),(some (.bool true))]⟩
noncomputable def CT (P:Params):Obj:=⟨.type "getset_descriptor", none,.fields #[vS "__weakref__" 202,.ref 24,.builtin "ExceptionGroup.__weakref__", .none],#[]⟩
noncomputable def CU (P:Params):Obj:=tO [.ref 24]
noncomputable def CV (P:Params):Obj:=tO []
noncomputable def CW (P:Params):Obj:=⟨.type "dict", none,.dict #[eS P "__module__" 214 (vS "lonewalks.errors" 187),eS P "__firstlineno__" 218 (.int 4 217),eS P "__static_attributes__" 219 (.ref 35),eS P "__doc__" 220 .none] 2,#[]⟩
noncomputable def CY (P:Params):Obj:=⟨.type "type", none,.cls ⟨.ofString "BadNet", [.ref 24],[.ref 37,.ref 24,.type "ValueError", .type "Exception", .type "BaseException", .type "object"],36,.ofString "BadNet", true,[],[],false,none,false⟩,#[(some (.ref 28)),none,(some (vS "BadNet" 207)),(some (vS "BadNet" 215)),(some (.builtin "ValueError.__new__")),(some (.bool true))]⟩
noncomputable def CZ (P:Params):Obj:=tO [.ref 24]
noncomputable def C0 (P:Params):Obj:=tO []
noncomputable def C1 (P:Params):Obj:=⟨.type "dict", none,.dict #[eS P "__module__" 230 (vS "lonewalks.errors" 187),eS P "__firstlineno__" 234 (.int 6 233),eS P "__static_attributes__" 235 (.ref 47),eS P "__doc__" 236 .none] 2,#[]⟩
noncomputable def C3 (P:Params):Obj:=⟨.type "type", none,.cls ⟨.ofString "BadWalk", [.ref 24],[.ref 49,.ref 24,.type "ValueError", .type "Exception", .type "BaseException", .type "object"],48,.ofString "BadWalk", true,[],[],false,none,false⟩,#[(some (.ref 40)),none,(some (vS "BadWalk" 223)),(some (vS "BadWalk" 231)),(some (.builtin "ValueError.__new__")),(some (.bool true))]⟩
noncomputable def C4 (P:Params):Obj:=tO [.ref 24]
noncomputable def C5 (P:Params):Obj:=tO []
noncomputable def C6 (P:Params):Obj:=⟨.type "dict", none,.dict #[eS P "__module__" 246 (vS "lonewalks.errors" 187),eS P "__firstlineno__" 250 (.int 8 249),eS P "__static_attributes__" 251 (.ref 59),eS P "__doc__" 252 .none] 2,#[]⟩
noncomputable def C7 (P:Params):Obj:=⟨.type "type", none,.cls ⟨.ofString "BadCompany", [.ref 24],[.ref 61,.ref 24,.type "ValueError", .type "Exception", .type "BaseException", .type "object"],60,.ofString "BadCompany", true,[],[],false,none,false⟩,#[(some (.ref 52)),none,(some (vS "BadCompany" 239)),(some (vS "BadCompany" 247)),(some (.builtin "ValueError.__new__")),(some (.bool true))]⟩
noncomputable def C8 (P:Params):Obj:=tO []
noncomputable def C9 (P:Params):Obj:=tO [vS "length" 266]
noncomputable def Db (P:Params):Obj:=tO []
noncomputable def Dd (P:Params):Obj:=cO "check_side" 263 "check_side" 264 265 14 1 64 65 .none (.ref 66) (.ref 67) (.ref 68) 267 14 268
noncomputable def De (P:Params):Obj:=fO "check_side" "check_side" (top 9) "lonewalks.nets" 255 69
noncomputable def Dg (P:Params):Obj:=tO []
noncomputable def Dh (P:Params):Obj:=cO "check_steps" 270 "check_steps" 271 272 17 3 71 72 .none .none .none (.ref 73) 273 17 274
noncomputable def Di (P:Params):Obj:=fO "check_steps" "check_steps" (top 10) "lonewalks.nets" 255 74
noncomputable def Dj (P:Params):Obj:=tO []
noncomputable def Dk (P:Params):Obj:=tO [vS "chosen" 279,vS "rows" 280,vS "last" 281,vS "row" 282]
noncomputable def Dl (P:Params):Obj:=tO []
noncomputable def Dm (P:Params):Obj:=cO "check_border" 276 "check_border" 277 278 25 2 76 77 .none (.ref 78) (.ref 79) (.ref 80) 283 25 284
noncomputable def Dn (P:Params):Obj:=fO "check_border" "check_border" (top 11) "lonewalks.nets" 255 81
noncomputable def Do (P:Params):Obj:=tO []
noncomputable def Dp (P:Params):Obj:=cO "__init__" 298 "Net.__init__" 299 300 35 5 90 91 .none .none .none (.ref 92) 301 35 302
noncomputable def Dq (P:Params):Obj:=fO "__init__" "Net.__init__" (jR 12 0) "lonewalks.nets" 255 93
noncomputable def Dr (P:Params):Obj:=tO [vS "columns" 304,vS "ends" 305,vS "right" 306,vS "rows" 307,vS "starts" 308,vS "up" 309]
noncomputable def Ds (P:Params):Obj:=⟨.type "dict", none,.dict #[eS P "__module__" 293 (vS "lonewalks.nets" 255),eS P "__firstlineno__" 297 (.int 33 296),eS P "__init__" 303 (.ref 94),eS P "__static_attributes__" 310 (.ref 95),eS P "__dict__" 312 (.ref 98),eS P "__weakref__" 314 (.ref 99),eS P "__doc__" 315 .none] 4,#[]⟩
noncomputable def Dt (P:Params):Obj:=⟨.type "type", none,.cls ⟨.ofString "Net", [.type "object"],[.ref 97,.type "object"],96,.ofString "Net", true,[],[],false,none,false⟩,#[none,none,(some (vS "Net" 286)),(some (vS "Net" 294)),(some (.builtin "object.__new__")),(some (.bool true))]⟩
noncomputable def Du (P:Params):Obj:=⟨.type "getset_descriptor", none,.fields #[vS "__dict__" 311,.ref 97,.builtin "function.__dict__", .builtin "function.__dict__#set"],#[]⟩
noncomputable def Dv (P:Params):Obj:=⟨.type "getset_descriptor", none,.fields #[vS "__weakref__" 313,.ref 97,.builtin "ExceptionGroup.__weakref__", .none],#[]⟩
noncomputable def Aj (P:Params):Obj:=tO []
noncomputable def Ak (P:Params):Obj:=tO [vS "net" 321,vS "x" 322,vS "y" 323]
noncomputable def Al (P:Params):Obj:=tO []
noncomputable def Am (P:Params):Obj:=cO "lies_on" 318 "lies_on" 319 320 52 3 102 103 .none (.ref 104) (.ref 105) (.ref 106) 324 52 325
noncomputable def An (P:Params):Obj:=fO "lies_on" "lies_on" (top 13) "lonewalks.nets" 255 107
noncomputable def Ao (P:Params):Obj:=tO []
noncomputable def Ap (P:Params):Obj:=tO [vS "net" 330,vS "x" 331,vS "y" 332,vS "letter" 333]
noncomputable def Aq (P:Params):Obj:=tO []
noncomputable def Ar (P:Params):Obj:=cO "step_weight" 327 "step_weight" 328 329 54 4 109 110 .none (.ref 111) (.ref 112) (.ref 113) 334 54 335
noncomputable def As (P:Params):Obj:=fO "step_weight" "step_weight" (top 14) "lonewalks.nets" 255 114
noncomputable def At (P:Params):Obj:=tO []
noncomputable def Au (P:Params):Obj:=tO [vS "x" 340,vS "y" 341,vS "letter" 342]
noncomputable def Av (P:Params):Obj:=tO []
noncomputable def Aw (P:Params):Obj:=cO "place_behind" 337 "place_behind" 338 339 60 3 116 117 .none (.ref 118) (.ref 119) (.ref 120) 343 60 344
noncomputable def Ax (P:Params):Obj:=fO "place_behind" "place_behind" (top 15) "lonewalks.nets" 255 121
noncomputable def Ay (P:Params):Obj:=tO []
noncomputable def Az (P:Params):Obj:=tO [vS "net" 351,vS "x" 352,vS "y" 353,vS "walk" 354,vS "found" 355,vS "letter" 356,vS "place" 357]
noncomputable def AA (P:Params):Obj:=tO []
noncomputable def AB (P:Params):Obj:=cO "places" 348 "places" 349 350 63 4 123 124 .none (.ref 125) (.ref 126) (.ref 127) 358 63 359
noncomputable def AC (P:Params):Obj:=fO "places" "places" (top 17) "lonewalks.walks" 346 128
noncomputable def AD (P:Params):Obj:=tO []
noncomputable def AE (P:Params):Obj:=tO [vS "net" 366,vS "walker" 367,vS "walk" 368]
noncomputable def AF (P:Params):Obj:=tO []
noncomputable def AG (P:Params):Obj:=cO "places_of_walker" 363 "places_of_walker" 364 365 74 3 130 131 .none (.ref 132) (.ref 133) (.ref 134) 369 74 370
noncomputable def AH (P:Params):Obj:=fO "places_of_walker" "places_of_walker" (top 19) "lonewalks.companies" 361 135
noncomputable def AI (P:Params):Obj:=tO []
noncomputable def AJ (P:Params):Obj:=tO [vS "net" 375,vS "place" 376]
noncomputable def AK (P:Params):Obj:=tO []
noncomputable def AL (P:Params):Obj:=cO "end_at" 372 "end_at" 373 374 79 2 137 138 .none (.ref 139) (.ref 140) (.ref 141) 377 79 378
noncomputable def AM (P:Params):Obj:=fO "end_at" "end_at" (top 20) "lonewalks.companies" 361 142
noncomputable def AN (P:Params):Obj:=tO []
noncomputable def AO (P:Params):Obj:=cO "ends_taken" 380 "ends_taken" 381 382 83 2 144 145 .none .none .none (.ref 146) 383 83 384
noncomputable def AQ (P:Params):Obj:=fO "ends_taken" "ends_taken" (top 21) "lonewalks.companies" 361 147
noncomputable def AR (P:Params):Obj:=tO []
noncomputable def AS (P:Params):Obj:=cO "places_of_all" 386 "places_of_all" 387 388 85 2 149 150 .none .none .none (.ref 151) 389 85 390
noncomputable def AT (P:Params):Obj:=fO "places_of_all" "places_of_all" (top 22) "lonewalks.companies" 361 152
noncomputable def AU (P:Params):Obj:=tO []
noncomputable def AV (P:Params):Obj:=tO [vS "tracks" 395,vS "walker" 396,vS "place" 397,vS "other" 398,vS "track" 399]
noncomputable def AW (P:Params):Obj:=tO []
noncomputable def AX (P:Params):Obj:=cO "least_other" 392 "least_other" 393 394 93 3 154 155 .none (.ref 156) (.ref 157) (.ref 158) 400 93 401
noncomputable def AY (P:Params):Obj:=fO "least_other" "least_other" (top 23) "lonewalks.companies" 361 159
noncomputable def AZ (P:Params):Obj:=tO []
noncomputable def A0 (P:Params):Obj:=tO [vS "net" 406,vS "company" 407,vS "tracks" 408,vS "walker" 409,vS "track" 410,vS "place" 411,vS "other" 412]
noncomputable def A1 (P:Params):Obj:=tO []
noncomputable def A2 (P:Params):Obj:=cO "first_meeting" 403 "first_meeting" 404 405 98 2 161 162 .none (.ref 163) (.ref 164) (.ref 165) 413 98 414
noncomputable def A3 (P:Params):Obj:=fO "first_meeting" "first_meeting" (top 24) "lonewalks.companies" 361 166
noncomputable def A4 (P:Params):Obj:=tO []
noncomputable def A5 (P:Params):Obj:=tO [vS "net" 419,vS "walker" 420,vS "place" 421]
noncomputable def A6 (P:Params):Obj:=tO []
noncomputable def A7 (P:Params):Obj:=cO "steps_to" 416 "steps_to" 417 418 106 3 168 169 .none (.ref 170) (.ref 171) (.ref 172) 422 106 423
noncomputable def A8 (P:Params):Obj:=fO "steps_to" "steps_to" (top 25) "lonewalks.companies" 361 173
noncomputable def A9 (P:Params):Obj:=tO []
noncomputable def Ba (P:Params):Obj:=tO [vS "net" 428,vS "company" 429,vS "meeting" 430,vS "one" 431,vS "other" 432,vS "cut_one" 433,vS "cut_other" 434,vS "changed" 435]
noncomputable def Bb (P:Params):Obj:=tO []
noncomputable def Bc (P:Params):Obj:=cO "exchanged" 425 "exchanged" 426 427 108 2 175 176 .none (.ref 177) (.ref 178) (.ref 179) 436 108 437
noncomputable def Bd (P:Params):Obj:=fO "exchanged" "exchanged" (top 26) "lonewalks.companies" 361 180
noncomputable def Be (P:Params):Obj:=tO []
noncomputable def Bf (P:Params):Obj:=tO [vS "script" 444,vS "k" 445]
noncomputable def Bg (P:Params):Obj:=tO []
noncomputable def Bh (P:Params):Obj:=cO "_law_cell_at" 441 "_law_cell_at" 442 443 121 2 182 183 .none (.ref 184) (.ref 185) (.ref 186) 446 121 447
noncomputable def Bi (P:Params):Obj:=fO "_law_cell_at" "_law_cell_at" (top 28) "law_lonewalks_k09_tails_exchanged" 439 187
noncomputable def Bj (P:Params):Obj:=tO []
noncomputable def Bk (P:Params):Obj:=tO [vS "cell" 452,vS "k" 453,vS "many" 454,vS "some" 455,vS "number" 456]
noncomputable def Bm (P:Params):Obj:=tO []
noncomputable def Bn (P:Params):Obj:=cO "_law_mix" 449 "_law_mix" 450 451 125 3 189 190 .none (.ref 191) (.ref 192) (.ref 193) 457 125 458
noncomputable def Bo (P:Params):Obj:=fO "_law_mix" "_law_mix" (top 29) "law_lonewalks_k09_tails_exchanged" 439 194
noncomputable def Bp (P:Params):Obj:=tO []
noncomputable def Bq (P:Params):Obj:=tO [vS "cell" 470,vS "many" 471,vS "rows" 472,vS "left" 473,vS "found" 474,vS "k" 475]
noncomputable def Br (P:Params):Obj:=tO []
noncomputable def Bs (P:Params):Obj:=cO "_law_rows_by" 467 "_law_rows_by" 468 469 132 3 203 204 .none (.ref 205) (.ref 206) (.ref 207) 476 132 477
noncomputable def Bt (P:Params):Obj:=fO "_law_rows_by" "_law_rows_by" (top 31) "law_lonewalks_k09_tails_exchanged" 439 208
noncomputable def Bu (P:Params):Obj:=tO []
noncomputable def Bv (P:Params):Obj:=tO [vS "cell" 482,vS "k" 483,vS "shut" 484,vS "kind" 485]
noncomputable def Bw (P:Params):Obj:=tO []
noncomputable def Bx (P:Params):Obj:=cO "_law_step_by" 479 "_law_step_by" 480 481 138 3 210 211 .none (.ref 212) (.ref 213) (.ref 214) 486 138 487
noncomputable def By (P:Params):Obj:=fO "_law_step_by" "_law_step_by" (top 32) "law_lonewalks_k09_tails_exchanged" 439 215
noncomputable def Bz (P:Params):Obj:=tO []
noncomputable def BA (P:Params):Obj:=cO "_law_parts_by" 489 "_law_parts_by" 490 491 145 4 217 218 .none .none .none (.ref 219) 492 145 493
noncomputable def BB (P:Params):Obj:=fO "_law_parts_by" "_law_parts_by" (top 33) "law_lonewalks_k09_tails_exchanged" 439 220
noncomputable def BC (P:Params):Obj:=tO []
noncomputable def BD (P:Params):Obj:=cO "_law_net" 495 "_law_net" 496 497 159 1 222 223 .none .none .none (.ref 224) 498 159 499
noncomputable def BE (P:Params):Obj:=fO "_law_net" "_law_net" (top 34) "law_lonewalks_k09_tails_exchanged" 439 225
noncomputable def BF (P:Params):Obj:=tO []
noncomputable def BG (P:Params):Obj:=tO [vS "parts" 504,vS "x" 505,vS "y" 506,vS "letter" 507]
noncomputable def BH (P:Params):Obj:=tO []
noncomputable def BI (P:Params):Obj:=cO "_law_step" 501 "_law_step" 502 503 162 4 227 228 .none (.ref 229) (.ref 230) (.ref 231) 508 162 509
noncomputable def BJ (P:Params):Obj:=fO "_law_step" "_law_step" (top 35) "law_lonewalks_k09_tails_exchanged" 439 232
noncomputable def BK (P:Params):Obj:=tO []
noncomputable def BL (P:Params):Obj:=tO [vS "parts" 514,vS "x" 515,vS "y" 516,vS "walk" 517,vS "found" 518,vS "total" 519,vS "letter" 520,vS "step" 521]
noncomputable def BM (P:Params):Obj:=tO []
noncomputable def BN (P:Params):Obj:=cO "_law_went" 511 "_law_went" 512 513 168 4 234 235 .none (.ref 236) (.ref 237) (.ref 238) 522 168 523
noncomputable def BO (P:Params):Obj:=fO "_law_went" "_law_went" (top 36) "law_lonewalks_k09_tails_exchanged" 439 239
noncomputable def BP (P:Params):Obj:=tO []
noncomputable def BQ (P:Params):Obj:=cO "_law_all" 525 "_law_all" 526 527 184 3 241 242 .none .none .none (.ref 243) 528 184 529
noncomputable def BR (P:Params):Obj:=fO "_law_all" "_law_all" (top 37) "law_lonewalks_k09_tails_exchanged" 439 244
noncomputable def BS (P:Params):Obj:=tO []
noncomputable def BT (P:Params):Obj:=cO "_law_companies" 531 "_law_companies" 532 533 196 2 246 247 .none .none .none (.ref 248) 534 196 535
noncomputable def BU (P:Params):Obj:=fO "_law_companies" "_law_companies" (top 38) "law_lonewalks_k09_tails_exchanged" 439 249
noncomputable def BV (P:Params):Obj:=tO []
noncomputable def BW (P:Params):Obj:=cO "_law_places" 537 "_law_places" 538 539 212 2 251 252 .none .none .none (.ref 253) 540 212 541
noncomputable def BX (P:Params):Obj:=fO "_law_places" "_law_places" (top 39) "law_lonewalks_k09_tails_exchanged" 439 254
noncomputable def BY (P:Params):Obj:=tO []
noncomputable def BZ (P:Params):Obj:=tO [vS "rows" 546,vS "seen" 547,vS "row" 548,vS "place" 549]
noncomputable def B0 (P:Params):Obj:=tO []
noncomputable def B1 (P:Params):Obj:=cO "_law_lone" 543 "_law_lone" 544 545 214 1 256 257 .none (.ref 258) (.ref 259) (.ref 260) 550 214 551
noncomputable def B2 (P:Params):Obj:=fO "_law_lone" "_law_lone" (top 40) "law_lonewalks_k09_tails_exchanged" 439 261
noncomputable def B3 (P:Params):Obj:=tO []
noncomputable def B4 (P:Params):Obj:=cO "_law_texts" 553 "_law_texts" 554 555 222 2 263 264 .none .none .none (.ref 265) 556 222 557
noncomputable def B5 (P:Params):Obj:=fO "_law_texts" "_law_texts" (top 41) "law_lonewalks_k09_tails_exchanged" 439 266
noncomputable def B6 (P:Params):Obj:=tO []
noncomputable def B7 (P:Params):Obj:=cO "_law_due" 559 "_law_due" 560 561 224 2 268 269 .none .none .none (.ref 270) 562 224 563
noncomputable def B8 (P:Params):Obj:=fO "_law_due" "_law_due" (top 42) "law_lonewalks_k09_tails_exchanged" 439 271
noncomputable def B9 (P:Params):Obj:=tO []
noncomputable def Ca (P:Params):Obj:=cO "law" 565 "law" 566 567 236 1 273 274 .none .none .none (.ref 275) 568 236 569
noncomputable def Cb (P:Params):Obj:=fO "law" "law" (top 43) "law_lonewalks_k09_tails_exchanged" 439 276
noncomputable def khK:Params->PySem.W.Frag:=fun P=>(nat_lit 2,ko2 P)::(nat_lit 3,ko3 P)::(nat_lit 15,CN P)::(nat_lit 22,CO P)::(nat_lit 23,CP P)::(nat_lit 24,CQ P)::(nat_lit 25,CT P)::(nat_lit 28,CU P)::(nat_lit 35,CV P)::(nat_lit 36,CW P)::(nat_lit 37,CY P)::(nat_lit 40,CZ P)::(nat_lit 47,C0 P)::(nat_lit 48,C1 P)::(nat_lit 49,C3 P)::(nat_lit 52,C4 P)::(nat_lit 59,C5 P)::(nat_lit 60,C6 P)::(nat_lit 61,C7 P)::(nat_lit 64,C8 P)::(nat_lit 66,C9 P)::(nat_lit 67,Db P)::(nat_lit 69,Dd P)::(nat_lit 70,De P)::(nat_lit 71,Dg P)::(nat_lit 74,Dh P)::(nat_lit 75,Di P)::(nat_lit 76,Dj P)::(nat_lit 78,Dk P)::(nat_lit 79,Dl P)::(nat_lit 81,Dm P)::(nat_lit 82,Dn P)::(nat_lit 90,Do P)::(nat_lit 93,Dp P)::(nat_lit 94,Dq P)::(nat_lit 95,Dr P)::(nat_lit 96,Ds P)::(nat_lit 97,Dt P)::(nat_lit 98,Du P)::(nat_lit 99,Dv P)::(nat_lit 102,Aj P)::(nat_lit 104,Ak P)::(nat_lit 105,Al P)::(nat_lit 107,Am P)::(nat_lit 108,An P)::(nat_lit 109,Ao P)::(nat_lit 111,Ap P)::(nat_lit 112,Aq P)::(nat_lit 114,Ar P)::(nat_lit 115,As P)::(nat_lit 116,At P)::(nat_lit 118,Au P)::(nat_lit 119,Av P)::(nat_lit 121,Aw P)::(nat_lit 122,Ax P)::(nat_lit 123,Ay P)::(nat_lit 125,Az P)::(nat_lit 126,AA P)::(nat_lit 128,AB P)::(nat_lit 129,AC P)::(nat_lit 130,AD P)::(nat_lit 132,AE P)::(nat_lit 133,AF P)::(nat_lit 135,AG P)::(nat_lit 136,AH P)::(nat_lit 137,AI P)::(nat_lit 139,AJ P)::(nat_lit 140,AK P)::(nat_lit 142,AL P)::(nat_lit 143,AM P)::(nat_lit 144,AN P)::(nat_lit 147,AO P)::(nat_lit 148,AQ P)::(nat_lit 149,AR P)::(nat_lit 152,AS P)::(nat_lit 153,AT P)::(nat_lit 154,AU P)::(nat_lit 156,AV P)::(nat_lit 157,AW P)::(nat_lit 159,AX P)::(nat_lit 160,AY P)::(nat_lit 161,AZ P)::(nat_lit 163,A0 P)::(nat_lit 164,A1 P)::(nat_lit 166,A2 P)::(nat_lit 167,A3 P)::(nat_lit 168,A4 P)::(nat_lit 170,A5 P)::(nat_lit 171,A6 P)::(nat_lit 173,A7 P)::(nat_lit 174,A8 P)::(nat_lit 175,A9 P)::(nat_lit 177,Ba P)::(nat_lit 178,Bb P)::(nat_lit 180,Bc P)::(nat_lit 181,Bd P)::(nat_lit 182,Be P)::(nat_lit 184,Bf P)::(nat_lit 185,Bg P)::(nat_lit 187,Bh P)::(nat_lit 188,Bi P)::(nat_lit 189,Bj P)::(nat_lit 191,Bk P)::(nat_lit 192,Bm P)::(nat_lit 194,Bn P)::(nat_lit 195,Bo P)::(nat_lit 203,Bp P)::(nat_lit 205,Bq P)::(nat_lit 206,Br P)::(nat_lit 208,Bs P)::(nat_lit 209,Bt P)::(nat_lit 210,Bu P)::(nat_lit 212,Bv P)::(nat_lit 213,Bw P)::(nat_lit 215,Bx P)::(nat_lit 216,By P)::(nat_lit 217,Bz P)::(nat_lit 220,BA P)::(nat_lit 221,BB P)::(nat_lit 222,BC P)::(nat_lit 225,BD P)::(nat_lit 226,BE P)::(nat_lit 227,BF P)::(nat_lit 229,BG P)::(nat_lit 230,BH P)::(nat_lit 232,BI P)::(nat_lit 233,BJ P)::(nat_lit 234,BK P)::(nat_lit 236,BL P)::(nat_lit 237,BM P)::(nat_lit 239,BN P)::(nat_lit 240,BO P)::(nat_lit 241,BP P)::(nat_lit 244,BQ P)::(nat_lit 245,BR P)::(nat_lit 246,BS P)::(nat_lit 249,BT P)::(nat_lit 250,BU P)::(nat_lit 251,BV P)::(nat_lit 254,BW P)::(nat_lit 255,BX P)::(nat_lit 256,BY P)::(nat_lit 258,BZ P)::(nat_lit 259,B0 P)::(nat_lit 261,B1 P)::(nat_lit 262,B2 P)::(nat_lit 263,B3 P)::(nat_lit 266,B4 P)::(nat_lit 267,B5 P)::(nat_lit 268,B6 P)::(nat_lit 271,B7 P)::(nat_lit 272,B8 P)::(nat_lit 273,B9 P)::(nat_lit 276,Ca P)::(nat_lit 277,Cb P)::[]
noncomputable def vw:Program:={ PySem.Challenge.pw_lonewalks_k09_tails_exchanged with main:={ PySem.Challenge.pw_lonewalks_k09_tails_exchanged.main with body:=khKeep.map top } }
end Lw
open PySem PySem.W PyProof.Rows in
set_option maxRecDepth 100000 in
theorem Lw.left:LeftO (OpenLaw.row PySem.Challenge.rw_lonewalks_k09_tails_exchanged).prog Lw.vw [] (fun s=>xlAt Lw.vw [] s && recOk (RowW.records (OpenRow.toRowW (OpenLaw.row PySem.Challenge.rw_lonewalks_k09_tails_exchanged))) s) (Hook.obs (kHook Lw.khK Lw.pU (fun _=>by kernel_rfl))) (Hook.val (kHook Lw.khK Lw.pU (fun _=>by kernel_rfl))) Lw.khN:=by
 intro w
 rewrite [PySem.W.Fast.te4187177175401517315,PySem.W.Fast.te5923862056798008813,PySem.W.Fast.te2368527892694137696,PySem.W.Fast.te14364793385576792824]
 kernel_rfl
namespace Lw
open Mi PySem
section
theorem bok {α β:Type} (a:α) (f:α->Res β):(Res.ok a >>= f)=f a:=rfl
theorem eU {α β:Type} (f:α->Res β):((Res.bad:Res α) >>= f)=.bad:=rfl
theorem eV {α β:Type} (C:Value) (f:α->Res β):((Res.exc C:Res α) >>= f)=.exc C:=rfl
theorem aok {α:Type} (a:α) (k:α->FOut):aft (Res.ok a) k=k a:=rfl
theorem eW {α:Type} (C:Value) (k:α->FOut):aft (Res.exc C:Res α) k=.exc C:=rfl
theorem bN (i:Int):(D.int i).tag=.f:=rfl
theorem b7 (i:Str):(D.str i).tag=.f:=rfl
theorem cK (i:Bool):(D.bl i).tag=.f:=rfl
theorem b8:D.non.tag=.f:=rfl
theorem b9 (i:List D):(D.tup i).tag=.f:=rfl
theorem bR (t:Tg) (i:List D):(D.lst t i).tag=t:=rfl
theorem cb (t:Tg) (C:Addr) (i):(D.ins t C i).tag=t:=rfl
theorem cc (i:List Int):(D.scr i).tag=.f:=rfl
theorem cw (i:Int):(D.int i).rd=.int i:=rfl
theorem cx (i:Str):(D.str i).rd=.str i:=rfl
theorem dl (i:Bool):(D.bl i).rd=.bl i:=rfl
theorem cL:D.non.rd=.non:=rfl
theorem cy (i:List D):(D.tup i).rd=.tup i:=rfl
theorem cz (i:List D):(D.lst .f i).rd=.lst .f i:=rfl
theorem cA (i:List D):(D.lst .o i).rd=.lst .b i:=rfl
theorem cB (i:List Int):(D.scr i).rd=.scr i:=rfl
theorem b4 (C:Addr) (i):(D.ins .f C i).rd=.ins .f C i:=rfl
theorem cM (p C:Addr) (i):(D.slf p C i).rd=.ins .b C i:=rfl
theorem aw (i:Int):(D.int i).fz=.int i:=rfl
theorem bI (i:Str):(D.str i).fz=.str i:=rfl
theorem cH (i:Bool):(D.bl i).fz=.bl i:=rfl
theorem bP:D.non.fz=.non:=rfl
theorem bp (i:List D):(D.tup i).fz=.tup (D.fzs i):=rfl
theorem aE (t:Tg) (i:List D):(D.lst t i).fz=.lst .f (D.fzs i):=rfl
theorem bK (t:Tg) (C:Addr) (i):(D.ins t C i).fz=.ins .f C i:=rfl
theorem ax:D.fzs []=[]:=rfl
theorem am (x:D) (r:List D):D.fzs (x::r)=x.fz::D.fzs r:=rfl
theorem cI (i j:Int):aP (.int i) (.int j)=.ok (.int (i + j)):=rfl
theorem dm (i j:Int):dR (.int i) (.int j)=.ok (.int (i - j)):=rfl
theorem sk (i j:Int) (h:-(2 ^ 64) < j/\j < 2 ^ 64):dE (.int i) (.int j)=.ok (.int (i * j)):=by
 unfold dE gI
 simp only
 rw [if_pos (by rw [Bool.or_eq_true];right;rw [Bool.and_eq_true,decide_eq_true_eq,decide_eq_true_eq];exact h)]
theorem kG (i j:Int) (h:-(2 ^ 64) < i/\i < 2 ^ 64):dE (.int i) (.int j)=.ok (.int (i * j)):=by
 unfold dE gI
 simp only
 rw [if_pos (by rw [Bool.or_eq_true];left;rw [Bool.and_eq_true,decide_eq_true_eq,decide_eq_true_eq];exact h)]
theorem gT (i j:Int) (h:0 < j):cX (.int i) (.int j)=.ok (.int (i % j)):=by
 unfold cX gI
 simp only
 rw [if_pos (by simpa using h)]
theorem uB (i j:Int) (h:0 < j/\j < 1073741824):ml (.int i) (.int j)=.ok (.int (i / j)):=by
 unfold ml gI
 simp only
 rw [if_pos (by rw [Bool.and_eq_true,decide_eq_true_eq,decide_eq_true_eq];exact h)]
theorem uC (ns:List Int):aR [.scr ns]=.ok (.int ns.length):=rfl
theorem eA (i j:Int):dLt (.int i) (.int j)=.ok (.bl (decide (i < j))):=rfl
theorem eB (i j:Int):dLe (.int i) (.int j)=.ok (.bl (decide (i <= j))):=rfl
theorem ee (i j:Int):dGt (.int i) (.int j)=.ok (.bl (decide (j < i))):=rfl
theorem eD (i j:Int):dGe (.int i) (.int j)=.ok (.bl (decide (j <= i))):=rfl
theorem bnf (b:Bool):(false != b)=b:=by cases b <;> rfl
theorem dq (i j:Int):dEq (.int i) (.int j)=.ok (.bl (decide (i=j))):=congrArg (fun b=>Res.ok (D.bl b)) (bnf _)
theorem dr (i j:Str):dEq (.str i) (.str j)=.ok (.bl (decide (i=j))):=congrArg (fun b=>Res.ok (D.bl b)) (bnf _)
theorem df (i j:Int):eR true (.int i) (.int j)=.ok (.bl (!decide (i=j))):=congrArg (fun b=>Res.ok (D.bl b)) (by cases decide (i=j) <;> rfl)
theorem cr (b:Bool):asB (.bl b)=.ok b:=rfl
theorem ntb {t:Tg} (h:(t == .b)=false):t ≠ .b:=by
 intro z
 subst z
 cases h
theorem cN:(Tg.f == Tg.b)=false:=rfl
theorem cP:(Tg.o == Tg.b)=false:=rfl
theorem b5 (i:Nat) (ρ:ae) (d:D) (h:ρ[i]?=some (some d)):aa i ρ=.ok d.rd:=by unfold aa;rw [h]
end
noncomputable def cell (ns:List Int) (k:Nat):Int:=(ns[k]?).getD 0
theorem nK (a:Ads) (ns:List Int) (k:Nat):az a [.scr ns,.int k]=.ok (.int (cell ns k)):=by
 by_cases h:(k:Int) < ns.length
 ·have hk:k < ns.length:=by lia
  have hx:L2.atI ns (k:Int)=some (ns[k]):=by
   unfold L2.atI L2.ixN
   rw [if_pos (by lia),if_pos h]
   exact List.getElem?_eq_getElem hk
  have hd:dIx (.scr ns) (.int k)=.ok (.int (cell ns k)):=by
   show (match L2.atI ns (k:Int) with | some v=>Res.ok (D.int v) | none=>.bad)=_
   rw [hx,cell,List.getElem?_eq_getElem hk]
   rfl
  simp only [Lw.bok,Lw.eU,Lw.eV,Lw.aok,Lw.eW,Mi.aN,Mi.ao,Mi.gIf,Mi.aq,Mi.aK,Mi.aC,Mi.ft2,Mi.ftB,Mi.bh,Mi.f2,Mi.f1,Mi.fC,Mi.fFz,Mi.aa,Mi.fCB,Mi.ac,Mi.af,Mi.bd,Mi.bj,Mi.nb,List.all_cons,List.all_nil,List.length_cons,List.length_nil,List.map_cons,List.map_nil,Lw.bN,Lw.b7,Lw.cK,Lw.b8,Lw.b9,Lw.bR,Lw.cb,Lw.cc,Lw.cw,Lw.cx,Lw.dl,Lw.cL,Lw.cy,Lw.cz,Lw.cA,Lw.cB,Lw.b4,Lw.cM,Lw.aw,Lw.bI,Lw.cH,Lw.bP,Lw.bp,Lw.aE,Lw.bK,Lw.ax,Lw.am,Lw.cI,Lw.dm,Lw.eA,Lw.eB,Lw.ee,Lw.eD,Lw.dq,Lw.dr,Lw.df,Lw.cr,Lw.cN,Lw.cP,List.getElem?_cons_zero,List.getElem?_cons_succ,List.set_cons_zero,List.set_cons_succ,List.replicate,List.cons_append,List.nil_append,reduceCtorEq,false_or,or_false,or_self,if_false,if_true,ite_true,ite_false,Nat.reduceAdd,Nat.reduceSub,Nat.reduceLeDiff,Nat.zero_add,Bool.and_true,Bool.true_and,Bool.not_true,Bool.not_false,decide_true,decide_false,az,gJ,uC,h,hd]
 ·have hc:cell ns k=0:=by rw [cell,List.getElem?_eq_none (by lia)];rfl
  simp only [Lw.bok,Lw.eU,Lw.eV,Lw.aok,Lw.eW,Mi.aN,Mi.ao,Mi.gIf,Mi.aq,Mi.aK,Mi.aC,Mi.ft2,Mi.ftB,Mi.bh,Mi.f2,Mi.f1,Mi.fC,Mi.fFz,Mi.aa,Mi.fCB,Mi.ac,Mi.af,Mi.bd,Mi.bj,Mi.nb,List.all_cons,List.all_nil,List.length_cons,List.length_nil,List.map_cons,List.map_nil,Lw.bN,Lw.b7,Lw.cK,Lw.b8,Lw.b9,Lw.bR,Lw.cb,Lw.cc,Lw.cw,Lw.cx,Lw.dl,Lw.cL,Lw.cy,Lw.cz,Lw.cA,Lw.cB,Lw.b4,Lw.cM,Lw.aw,Lw.bI,Lw.cH,Lw.bP,Lw.bp,Lw.aE,Lw.bK,Lw.ax,Lw.am,Lw.cI,Lw.dm,Lw.eA,Lw.eB,Lw.ee,Lw.eD,Lw.dq,Lw.dr,Lw.df,Lw.cr,Lw.cN,Lw.cP,List.getElem?_cons_zero,List.getElem?_cons_succ,List.set_cons_zero,List.set_cons_succ,List.replicate,List.cons_append,List.nil_append,reduceCtorEq,false_or,or_false,or_self,if_false,if_true,ite_true,ite_false,Nat.reduceAdd,Nat.reduceSub,Nat.reduceLeDiff,Nat.zero_add,Bool.and_true,Bool.true_and,Bool.not_true,Bool.not_false,decide_true,decide_false,az,gJ,uC,h,hc]
theorem iA {t:Tg} (xs:List Int) (i:Int) (h0:0 <= i) (h1:i < xs.length):dIx (.lst t (xs.map D.int)) (.int i)=.ok (.int (xs.getD i.toNat 0)):=by
 have hj:i.toNat < xs.length:=by lia
 have e:L2.ixN (xs.map D.int).length i=some i.toNat:=by
  unfold L2.ixN;rw [List.length_map,if_pos h0,if_pos h1]
 unfold dIx
 simp only [e]
 have g:(xs.map D.int)[i.toNat]?=some (.int (xs.getD i.toNat 0)):=by rw [List.getElem?_map,List.getD,List.getElem?_eq_getElem hj];rfl
 cases t
 ·show bE ((xs.map D.int)[i.toNat]?.map D.asF)=_;rw [g];rfl
 ·show bE ((xs.map D.int)[i.toNat]?)=_;rw [g];rfl
 ·show bE ((xs.map D.int)[i.toNat]?.map D.rd)=_;rw [g];rfl
noncomputable def tbl:List Int:=[48271,69621,16807,39373,30269,40014,40692,50021,61687,71993,83869,95561,30307]
noncomputable def tb (k:Int):Int:=tbl.getD (k % 13).toNat 0
noncomputable def dC (c k many:Int):Int:=((c % 2147483647 + 12345) * tb k * (2 * (k / 13) + 1) + 977 * k) % 1000000007 / 7 % many
theorem mS (a:Ads) (c k many:Int) (k0:0 <= k) (k1:k < 1000000) (hm:0 < many):bY a [.int c,.int k,.int many]=.ok (.int (dC c k many)):=by
 have hi:=iA (t:=.f) tbl (k % 13) (by lia) (by show k % 13 < 13;lia)
 have hi':dIx (D.lst .f [D.int 48271,D.int 69621,D.int 16807,D.int 39373,D.int 30269,D.int 40014,D.int 40692,D.int 50021,D.int 61687,D.int 71993,D.int 83869,D.int 95561,D.int 30307]) (.int (k % 13))=.ok (.int (tb k)):=hi
 have hz:(13:Nat) <= sizeLine:=by decide
 have b1:tb k < 100000:=by
  have:∀ j,tbl.getD j 0 < 100000:=by
   intro j
   simp only [tbl]
   match j with
   | 0 | 1 | 2 | 3 | 4 | 5 | 6 | 7 | 8 | 9 | 10 | 11 | 12=>decide
   | n + 13=>simp
  exact this _
 have b0:-1 < tb k:=by
  have:∀ j,-1 < tbl.getD j 0:=by
   intro j
   simp only [tbl]
   match j with
   | 0 | 1 | 2 | 3 | 4 | 5 | 6 | 7 | 8 | 9 | 10 | 11 | 12=>decide
   | n + 13=>simp
  exact this _
 have hz:(13:Nat) <= sizeLine:=by decide
 simp only [Lw.bok,Lw.eU,Lw.eV,Lw.aok,Lw.eW,Mi.aN,Mi.ao,Mi.gIf,Mi.aq,Mi.aK,Mi.aC,Mi.ft2,Mi.ftB,Mi.bh,Mi.f2,Mi.f1,Mi.fC,Mi.fFz,Mi.aa,Mi.fCB,Mi.ac,Mi.af,Mi.bd,Mi.bj,Mi.nb,List.all_cons,List.all_nil,List.length_cons,List.length_nil,List.map_cons,List.map_nil,Lw.bN,Lw.b7,Lw.cK,Lw.b8,Lw.b9,Lw.bR,Lw.cb,Lw.cc,Lw.cw,Lw.cx,Lw.dl,Lw.cL,Lw.cy,Lw.cz,Lw.cA,Lw.cB,Lw.b4,Lw.cM,Lw.aw,Lw.bI,Lw.cH,Lw.bP,Lw.bp,Lw.aE,Lw.bK,Lw.ax,Lw.am,Lw.cI,Lw.dm,Lw.eA,Lw.eB,Lw.ee,Lw.eD,Lw.dq,Lw.dr,Lw.df,Lw.cr,Lw.cN,Lw.cP,List.getElem?_cons_zero,List.getElem?_cons_succ,List.set_cons_zero,List.set_cons_succ,List.replicate,List.cons_append,List.nil_append,reduceCtorEq,false_or,or_false,or_self,if_false,if_true,ite_true,ite_false,Nat.reduceAdd,Nat.reduceSub,Nat.reduceLeDiff,Nat.zero_add,Bool.and_true,Bool.true_and,Bool.not_true,Bool.not_false,decide_true,decide_false,bY,mL,hz,hi',gT c 2147483647 (by decide),gT k 13 (by decide),sk _ (tb k) (by lia),uB k 13 (by decide),kG 2 _ (by decide),sk _ (2 * (k / 13) + 1) (by lia),kG 977 _ (by decide),gT _ 1000000007 (by decide),uB _ 7 (by decide),gT _ many hm,dC]
theorem cC {n:Nat} {F:List D->Res D} {fa:ae->Res (List D)} {ρ:ae} {ds:List D} {d:D} (h:fa ρ=.ok ds) (hn:ds.length=n) (hF:F (D.fzs ds)=.ok d) (ha:d.atom=true):au n F fa ρ=.ok d:=by
 unfold au
 rw [h,bok,if_pos hn]
 unfold fA
 rw [hF]
 show (if _ then _ else _)=_
 rw [if_pos (.inr ha)]
theorem lh (c k many:Int) (h:0 < many):0 <= dC c k many/\dC c k many < many:=⟨Int.emod_nonneg _ (by lia),Int.emod_lt_of_pos _ h⟩
noncomputable def fF (c k shut:Int):Int:=if dC c k shut=0 then 0 else if dC c k shut=1 then [1000,c % 1001].getD (dC c (k + 500) 2).toNat 0 else 1 + dC c (k + 900) 5
theorem pV (c k shut:Int) (h:0 < shut):0 <= fF c k shut/\fF c k shut <= 1000:=by
 unfold fF
 split
 ·lia
 ·split
  ·have h2:=lh c (k + 500) 2 (by decide)
   have:dC c (k + 500) 2=0 \/ dC c (k + 500) 2=1:=by lia
   rcases this with e | e <;> rw [e] <;> simp <;> lia
  ·have:=lh c (k + 900) 5 (by decide)
   lia
theorem rf (a:Ads) (c k shut:Int) (k0:0 <= k) (k1:k < 900000) (hs:0 < shut):bM a [.int c,.int k,.int shut]=.ok (.int (fF c k shut)):=by
 have m1:∀ (e:Option D),au 3 (bY a) (ac (aa 0) (ac (aa 1) (ac (aa 2) af))) [some (.int c),some (.int k),some (.int shut),e]=.ok (.int (dC c k shut)):=fun e =>
  cC (ds:=[.int c,.int k,.int shut]) rfl rfl (by rw [am,am,am,ax,aw,aw,aw];exact mS a c k shut k0 (by lia) hs) rfl
 have m2:∀ (e:Option D),au 3 (bY a) (ac (aa 0) (ac (f2 aP (aa 1) (fC (.int 500))) (ac (fC (.int 2)) af))) [some (.int c),some (.int k),some (.int shut),e]=.ok (.int (dC c (k + 500) 2)):=fun e =>
  cC (ds:=[.int c,.int (k + 500),.int 2]) rfl rfl (by rw [am,am,am,ax,aw,aw,aw];exact mS a c (k + 500) 2 (by lia) (by lia) (by decide)) rfl
 have m3:∀ (e:Option D),au 3 (bY a) (ac (aa 0) (ac (f2 aP (aa 1) (fC (.int 900))) (ac (fC (.int 5)) af))) [some (.int c),some (.int k),some (.int shut),e]=.ok (.int (dC c (k + 900) 5)):=fun e =>
  cC (ds:=[.int c,.int (k + 900),.int 5]) rfl rfl (by rw [am,am,am,ax,aw,aw,aw];exact mS a c (k + 900) 5 (by lia) (by lia) (by decide)) rfl
 have hz:(2:Nat) <= sizeLine:=by decide
 have h2:=lh c (k + 500) 2 (by decide)
 have hix:dIx (D.lst .o [D.int 1000,D.int (c % 1001)]) (.int (dC c (k + 500) 2))=.ok (.int ([1000,c % 1001].getD (dC c (k + 500) 2).toNat 0)):=iA (t:=.o) [1000,c % 1001] _ h2.1 h2.2
 unfold fF
 by_cases h0:dC c k shut=0
 ·simp only [Lw.bok,Lw.eU,Lw.eV,Lw.aok,Lw.eW,Mi.aN,Mi.ao,Mi.gIf,Mi.aq,Mi.aK,Mi.aC,Mi.ft2,Mi.ftB,Mi.bh,Mi.f2,Mi.f1,Mi.fC,Mi.fFz,Mi.aa,Mi.fCB,Mi.ac,Mi.af,Mi.bd,Mi.bj,Mi.nb,List.all_cons,List.all_nil,List.length_cons,List.length_nil,List.map_cons,List.map_nil,Lw.bN,Lw.b7,Lw.cK,Lw.b8,Lw.b9,Lw.bR,Lw.cb,Lw.cc,Lw.cw,Lw.cx,Lw.dl,Lw.cL,Lw.cy,Lw.cz,Lw.cA,Lw.cB,Lw.b4,Lw.cM,Lw.aw,Lw.bI,Lw.cH,Lw.bP,Lw.bp,Lw.aE,Lw.bK,Lw.ax,Lw.am,Lw.cI,Lw.dm,Lw.eA,Lw.eB,Lw.ee,Lw.eD,Lw.dq,Lw.dr,Lw.df,Lw.cr,Lw.cN,Lw.cP,List.getElem?_cons_zero,List.getElem?_cons_succ,List.set_cons_zero,List.set_cons_succ,List.replicate,List.cons_append,List.nil_append,reduceCtorEq,false_or,or_false,or_self,if_false,if_true,ite_true,ite_false,Nat.reduceAdd,Nat.reduceSub,Nat.reduceLeDiff,Nat.zero_add,Bool.and_true,Bool.true_and,Bool.not_true,Bool.not_false,decide_true,decide_false,bM,fE,m1,h0]
 ·by_cases h1:dC c k shut=1
  ·simp only [Lw.bok,Lw.eU,Lw.eV,Lw.aok,Lw.eW,Mi.aN,Mi.ao,Mi.gIf,Mi.aq,Mi.aK,Mi.aC,Mi.ft2,Mi.ftB,Mi.bh,Mi.f2,Mi.f1,Mi.fC,Mi.fFz,Mi.aa,Mi.fCB,Mi.ac,Mi.af,Mi.bd,Mi.bj,Mi.nb,List.all_cons,List.all_nil,List.length_cons,List.length_nil,List.map_cons,List.map_nil,Lw.bN,Lw.b7,Lw.cK,Lw.b8,Lw.b9,Lw.bR,Lw.cb,Lw.cc,Lw.cw,Lw.cx,Lw.dl,Lw.cL,Lw.cy,Lw.cz,Lw.cA,Lw.cB,Lw.b4,Lw.cM,Lw.aw,Lw.bI,Lw.cH,Lw.bP,Lw.bp,Lw.aE,Lw.bK,Lw.ax,Lw.am,Lw.cI,Lw.dm,Lw.eA,Lw.eB,Lw.ee,Lw.eD,Lw.dq,Lw.dr,Lw.df,Lw.cr,Lw.cN,Lw.cP,List.getElem?_cons_zero,List.getElem?_cons_succ,List.set_cons_zero,List.set_cons_succ,List.replicate,List.cons_append,List.nil_append,reduceCtorEq,false_or,or_false,or_self,if_false,if_true,ite_true,ite_false,Nat.reduceAdd,Nat.reduceSub,Nat.reduceLeDiff,Nat.zero_add,Bool.and_true,Bool.true_and,Bool.not_true,Bool.not_false,decide_true,decide_false,bM,fE,m1,m2,h1,hz,hix,gT c 1001 (by decide),Int.reduceEq]
  ·simp only [Lw.bok,Lw.eU,Lw.eV,Lw.aok,Lw.eW,Mi.aN,Mi.ao,Mi.gIf,Mi.aq,Mi.aK,Mi.aC,Mi.ft2,Mi.ftB,Mi.bh,Mi.f2,Mi.f1,Mi.fC,Mi.fFz,Mi.aa,Mi.fCB,Mi.ac,Mi.af,Mi.bd,Mi.bj,Mi.nb,List.all_cons,List.all_nil,List.length_cons,List.length_nil,List.map_cons,List.map_nil,Lw.bN,Lw.b7,Lw.cK,Lw.b8,Lw.b9,Lw.bR,Lw.cb,Lw.cc,Lw.cw,Lw.cx,Lw.dl,Lw.cL,Lw.cy,Lw.cz,Lw.cA,Lw.cB,Lw.b4,Lw.cM,Lw.aw,Lw.bI,Lw.cH,Lw.bP,Lw.bp,Lw.aE,Lw.bK,Lw.ax,Lw.am,Lw.cI,Lw.dm,Lw.eA,Lw.eB,Lw.ee,Lw.eD,Lw.dq,Lw.dr,Lw.df,Lw.cr,Lw.cN,Lw.cP,List.getElem?_cons_zero,List.getElem?_cons_succ,List.set_cons_zero,List.set_cons_succ,List.replicate,List.cons_append,List.nil_append,reduceCtorEq,false_or,or_false,or_self,if_false,if_true,ite_true,ite_false,Nat.reduceAdd,Nat.reduceSub,Nat.reduceLeDiff,Nat.zero_add,Bool.and_true,Bool.true_and,Bool.not_true,Bool.not_false,decide_true,decide_false,bM,fE,m1,m3,h0,h1]
theorem oz {α β:Type} (f:α->β):∀ (l:List α) (q:Nat),(l.map f).eraseIdx q=(l.eraseIdx q).map f
 | [],_=>rfl
 | _::_,0=>rfl
 | x::l,q + 1=>by simp [oz f l q]
theorem mT {α:Type}:∀ (l:List α) (q:Nat) (h:q < l.length),(l[q]::l.eraseIdx q).Perm l
 | x::l,0,_=>.refl _
 | x::l,q + 1,h=>by
  have h':q < l.length:=by simpa using h
  exact (List.Perm.swap x _ _).trans (List.Perm.cons x (mT l q h'))
noncomputable def stR (c many rows:Int) (L Fd:List Int) (e:Option D):ae:=[some (.int c),some (.int many),some (.int rows),some (.lst .o (L.map D.int)),some (.lst .o (Fd.map D.int)),e]
noncomputable abbrev fkR (a:Ads):ae->Res D:=au 3 (bY a) (ac (aa 0) (ac (f2 dE (fC (.int 7)) (aa 5)) (ac (fCB aR (ac (aa 3) af)) af)))
theorem xx (t:Tg) (xs:List D):aR [.lst t xs]=.ok (.int xs.length):=rfl
theorem vM (a:Ads) (c many rows:Int) (L Fd:List Int) (j:Nat) (hj:j < 1000) (hL:0 < L.length) (hL8:L.length < 1000) (hF:Fd.length < 1000) :
    ∃ q:Nat,∃ hq:q < L.length,eP 4 3 (fkR a) (stR c many rows L Fd (some (.int (0 + (j:Int)))))=.nx (stR c many rows (L.eraseIdx q) (Fd ++ [L[q]]) (some (.int (0 + (j:Int))))):=by
 have hm:=lh c (7 * (0 + (j:Int))) L.length (by lia)
 have hz:Fd.length < sizeLine:=Nat.lt_trans hF (by decide)
 refine ⟨(dC c (7 * (0 + (j:Int))) L.length).toNat,by lia,?_⟩
 have hk:fkR a (stR c many rows L Fd (some (.int (0 + (j:Int)))))=.ok (.int (dC c (7 * (0 + (j:Int))) L.length)):=by
  refine cC (ds:=[.int c,.int (7 * (0 + (j:Int))),.int L.length]) ?_ rfl ?_ rfl
  ·simp only [Lw.bok,Lw.eU,Lw.eV,Lw.aok,Lw.eW,Mi.aN,Mi.ao,Mi.gIf,Mi.aq,Mi.aK,Mi.aC,Mi.ft2,Mi.ftB,Mi.bh,Mi.f2,Mi.f1,Mi.fC,Mi.fFz,Mi.aa,Mi.fCB,Mi.ac,Mi.af,Mi.bd,Mi.bj,Mi.nb,List.all_cons,List.all_nil,List.length_cons,List.length_nil,List.map_cons,List.map_nil,Lw.bN,Lw.b7,Lw.cK,Lw.b8,Lw.b9,Lw.bR,Lw.cb,Lw.cc,Lw.cw,Lw.cx,Lw.dl,Lw.cL,Lw.cy,Lw.cz,Lw.cA,Lw.cB,Lw.b4,Lw.cM,Lw.aw,Lw.bI,Lw.cH,Lw.bP,Lw.bp,Lw.aE,Lw.bK,Lw.ax,Lw.am,Lw.cI,Lw.dm,Lw.eA,Lw.eB,Lw.ee,Lw.eD,Lw.dq,Lw.dr,Lw.df,Lw.cr,Lw.cN,Lw.cP,List.getElem?_cons_zero,List.getElem?_cons_succ,List.set_cons_zero,List.set_cons_succ,List.replicate,List.cons_append,List.nil_append,reduceCtorEq,false_or,or_false,or_self,if_false,if_true,ite_true,ite_false,Nat.reduceAdd,Nat.reduceSub,Nat.reduceLeDiff,Nat.zero_add,Bool.and_true,Bool.true_and,Bool.not_true,Bool.not_false,decide_true,decide_false,stR,xx,List.length_map,kG 7 _ (by decide)]
  ·rw [am,am,am,ax,aw,aw,aw]
   exact mS a c _ _ (by lia) (by lia) (by lia)
 have hs:seqIndex? (dC c (7 * (0 + (j:Int))) L.length) (L.map D.int).length=some (dC c (7 * (0 + (j:Int))) L.length).toNat:=by
  refine (L2.kT ?_).1
  unfold L2.ixN
  rw [List.length_map,if_pos hm.1,if_pos hm.2]
 have hg:(L.map D.int)[(dC c (7 * (0 + (j:Int))) L.length).toNat]?=some (.int (L[(dC c (7 * (0 + (j:Int))) L.length).toNat]'(by lia))):=by
  rw [List.getElem?_map,List.getElem?_eq_getElem (by lia)];rfl
 have e4:(stR c many rows L Fd (some (.int (0 + (j:Int)))))[4]?=some (some (.lst .o (Fd.map D.int))):=rfl
 have e3:(stR c many rows L Fd (some (.int (0 + (j:Int)))))[3]?=some (some (.lst .o (L.map D.int))):=rfl
 unfold eP
 simp only [e4,e3,hk,aok,hs,hg]
 rw [if_neg (by rw [bN,List.length_map];simp only [reduceCtorEq,false_or];lia)]
 rw [oz]
 simp [stR]
theorem cm {gt:D->ae->Res ae} {gb:ae->FOut} {x:D} {xs:List D} {ρ ρ1 ρ2:ae} {o:FOut} (h1:gt x ρ=.ok ρ1) (h2:gb ρ1=.nx ρ2) (h3:bv gt gb xs ρ2=o):bv gt gb (x::xs) ρ=o:=by
 show (match gt x ρ with
  | .ok ρ1=>match gb ρ1 with
   | .nx ρ2=>bv gt gb xs ρ2
   | .ct ρ2=>bv gt gb xs ρ2
   | .bk ρ2=>.nx ρ2
   | r=>r
  | _=>.bad)=o
 rw [h1];simp only [h2,h3]
theorem oA (a:Ads) (c many rows:Int):∀ (m i:Nat) (L Fd:List Int) (e:Option D),m <= L.length->L.length < 1000->i + m < 1000->Fd.length + m < 1000 →
    ∃ L' Fd' e',bv (av 5) (eP 4 3 (fkR a)) ((List.range' i m).map fun (j:Nat)=>D.int (0 + (j:Int))) (stR c many rows L Fd e)=.nx (stR c many rows L' Fd' e')/\(L' ++ Fd').Perm (L ++ Fd)/\Fd'.length=Fd.length + m
 | 0,i,L,Fd,e,_,_,_,_=>⟨L,Fd,e,rfl,.refl _,rfl⟩
 | m + 1,i,L,Fd,e,h1,h2,h3,h4=>by
  obtain ⟨q,hq,hs⟩:=vM a c many rows L Fd i (by lia) (by lia) h2 (by lia)
  have hl:(L.eraseIdx q).length=L.length - 1:=List.length_eraseIdx_of_lt hq
  obtain ⟨L',Fd',e',k1,k2,k3⟩:=oA a c many rows m (i + 1) (L.eraseIdx q) (Fd ++ [L[q]]) (some (.int (0 + (i:Int)))) (by lia) (by lia) (by lia) (by simp;lia)
  refine ⟨L',Fd',e',?_,k2.trans ?_,by rw [k3];simp;lia⟩
  ·rw [List.range'_succ,List.map_cons]
   exact cm rfl hs k1
  ·have p:(L[q]::L.eraseIdx q).Perm L:=mT L q hq
   refine List.Perm.trans ?_ (List.Perm.append_right Fd p)
   rw [<- List.append_assoc,List.cons_append]
   exact List.perm_append_singleton _ _
structure Rising (rows:Int) (many:Nat) (L:List Int):Prop where
 len:L.length=many
 asc:L.Pairwise (· < ·)
 inn:∀ x ∈ L,0 <= x/\x < rows
theorem eh {fa:ae->Res (List D)} {ρ:ae} {n:Nat} (h:fa ρ=.ok [.int (n:Int)]) (hn:n < 1000):bW fa ρ=.ok (a7 0 n):=by
 have h1:-(2 ^ 62) <= (n:Int):=by lia
 have h2:(n:Int) < 2 ^ 62:=by lia
 unfold bW
 rw [h,bok]
 show (if (decide (-(2 ^ 62) <= (n:Int)) && decide ((n:Int) < 2 ^ 62))=true then Res.ok (a7 0 (n:Int).toNat) else .bad)=_
 rw [if_pos (by rw [Bool.and_eq_true,decide_eq_true_eq,decide_eq_true_eq];exact ⟨h1,h2⟩),Int.toNat_natCast]
theorem oB {fa:ae->Res (List D)} {ρ:ae} {n:Nat} (h:fa ρ=.ok [.int (n:Int)]) (hn:n < 1000):eO fa ρ=.ok (.lst .o (a7 0 n)):=by
 have hl:(a7 0 n).length <= 1000000:=by
  have:(a7 0 n).length=n:=by simp [a7]
  lia
 unfold eO
 rw [eh h hn,bok,if_pos hl]
theorem cU:∀ L:List Int,D.fzs (L.map D.int)=L.map D.int
 | []=>ax
 | x::L=>by rw [List.map_cons,am,aw,cU L]
theorem uD (t:Tg) (L:List Int) (hi:D.its (.lst t (L.map D.int))=some (L.map D.int)) (h:L.length < 64):em [.lst t (L.map D.int)]=.ok (.lst .o ((fB L).map D.int)):=by
 unfold em
 simp only [hi,jJ]
 rw [if_pos ⟨rfl,h⟩]
theorem oC (n:Nat):a7 0 n=((List.range n).map fun (i:Nat)=>(0 + (i:Int))).map D.int:=by simp [a7]
theorem Cc (L:List Int):D.its (.lst .b (L.map D.int))=some (L.map D.int):=by
 show (if ((L.map D.int).all fun x=>x.tag == Tg.f)=true then some (L.map D.int) else none)=_
 refine if_pos ?_
 rw [List.all_eq_true]
 intro x hx
 obtain ⟨i,_,rfl⟩:=List.mem_map.mp hx
 rfl
theorem nL {N:Nat} {g:ae->FOut} {ds:List D} {d:D} (h:g (ds.map some ++ List.replicate (N - ds.length) none)=.rt d):aN N g ds=.ok d:=by unfold aN;rw [h]
noncomputable def nM (c:Int) (many rows:Nat):ae:=[some (.int c),some (.int many),some (.int rows),none,none,none]
noncomputable def sq (c:Int) (many rows:Nat):ae:=[some (.int c),some (.int many),some (.int rows),some (.lst .o (a7 0 rows)),none,none]
noncomputable abbrev L0 (rows:Nat):List Int:=(List.range rows).map fun (i:Nat)=>(0 + (i:Int))
theorem rr1 (c:Int) (many rows:Nat) (hr:rows < 1000):aq 3 (eO (ac (aa 2) af)) (nM c many rows)=.nx (sq c many rows):=by
 have fl:eO (ac (aa 2) af) (nM c many rows)=.ok (.lst .o (a7 0 rows)):=oB (by simp only [Lw.bok,Lw.eU,Lw.eV,Lw.aok,Lw.eW,Mi.aN,Mi.ao,Mi.gIf,Mi.aq,Mi.aK,Mi.aC,Mi.ft2,Mi.ftB,Mi.bh,Mi.f2,Mi.f1,Mi.fC,Mi.fFz,Mi.aa,Mi.fCB,Mi.ac,Mi.af,Mi.bd,Mi.bj,Mi.nb,List.all_cons,List.all_nil,List.length_cons,List.length_nil,List.map_cons,List.map_nil,Lw.bN,Lw.b7,Lw.cK,Lw.b8,Lw.b9,Lw.bR,Lw.cb,Lw.cc,Lw.cw,Lw.cx,Lw.dl,Lw.cL,Lw.cy,Lw.cz,Lw.cA,Lw.cB,Lw.b4,Lw.cM,Lw.aw,Lw.bI,Lw.cH,Lw.bP,Lw.bp,Lw.aE,Lw.bK,Lw.ax,Lw.am,Lw.cI,Lw.dm,Lw.eA,Lw.eB,Lw.ee,Lw.eD,Lw.dq,Lw.dr,Lw.df,Lw.cr,Lw.cN,Lw.cP,List.getElem?_cons_zero,List.getElem?_cons_succ,List.set_cons_zero,List.set_cons_succ,List.replicate,List.cons_append,List.nil_append,reduceCtorEq,false_or,or_false,or_self,if_false,if_true,ite_true,ite_false,Nat.reduceAdd,Nat.reduceSub,Nat.reduceLeDiff,Nat.zero_add,Bool.and_true,Bool.true_and,Bool.not_true,Bool.not_false,decide_true,decide_false,nM]) hr
 unfold aq
 rw [fl,aok,bR,if_neg (by simp [nM])]
 simp only [nM,sq,List.set_cons_zero,List.set_cons_succ]
theorem rr2 (c:Int) (many rows:Nat):aq 4 (bd af) (sq c many rows)=.nx (stR c many rows (L0 rows) [] none):=by
 have hz:(0:Nat) <= sizeLine:=Nat.zero_le _
 simp only [Lw.bok,Lw.eU,Lw.eV,Lw.aok,Lw.eW,Mi.aN,Mi.ao,Mi.gIf,Mi.aq,Mi.aK,Mi.aC,Mi.ft2,Mi.ftB,Mi.bh,Mi.f2,Mi.f1,Mi.fC,Mi.fFz,Mi.aa,Mi.fCB,Mi.ac,Mi.af,Mi.bd,Mi.bj,Mi.nb,List.all_cons,List.all_nil,List.length_cons,List.length_nil,List.map_cons,List.map_nil,Lw.bN,Lw.b7,Lw.cK,Lw.b8,Lw.b9,Lw.bR,Lw.cb,Lw.cc,Lw.cw,Lw.cx,Lw.dl,Lw.cL,Lw.cy,Lw.cz,Lw.cA,Lw.cB,Lw.b4,Lw.cM,Lw.aw,Lw.bI,Lw.cH,Lw.bP,Lw.bp,Lw.aE,Lw.bK,Lw.ax,Lw.am,Lw.cI,Lw.dm,Lw.eA,Lw.eB,Lw.ee,Lw.eD,Lw.dq,Lw.dr,Lw.df,Lw.cr,Lw.cN,Lw.cP,List.getElem?_cons_zero,List.getElem?_cons_succ,List.set_cons_zero,List.set_cons_succ,List.replicate,List.cons_append,List.nil_append,reduceCtorEq,false_or,or_false,or_self,if_false,if_true,ite_true,ite_false,Nat.reduceAdd,Nat.reduceSub,Nat.reduceLeDiff,Nat.zero_add,Bool.and_true,Bool.true_and,Bool.not_true,Bool.not_false,decide_true,decide_false,stR,sq,oC,hz]
theorem rr3 (a:Ads) (c:Int) (many rows:Nat) (hm:many < 1000) {r:ae} (k1:bv (av 5) (eP 4 3 (fkR a)) (a7 0 many) (stR c many rows (L0 rows) [] none)=.nx r) :
    bH (bW (ac (aa 1) af)) (av 5) (eP 4 3 (fkR a)) (stR c many rows (L0 rows) [] none)=.nx r:=by
 have ff:bW (ac (aa 1) af) (stR c many rows (L0 rows) [] none)=.ok (a7 0 many):=eh (by simp only [Lw.bok,Lw.eU,Lw.eV,Lw.aok,Lw.eW,Mi.aN,Mi.ao,Mi.gIf,Mi.aq,Mi.aK,Mi.aC,Mi.ft2,Mi.ftB,Mi.bh,Mi.f2,Mi.f1,Mi.fC,Mi.fFz,Mi.aa,Mi.fCB,Mi.ac,Mi.af,Mi.bd,Mi.bj,Mi.nb,List.all_cons,List.all_nil,List.length_cons,List.length_nil,List.map_cons,List.map_nil,Lw.bN,Lw.b7,Lw.cK,Lw.b8,Lw.b9,Lw.bR,Lw.cb,Lw.cc,Lw.cw,Lw.cx,Lw.dl,Lw.cL,Lw.cy,Lw.cz,Lw.cA,Lw.cB,Lw.b4,Lw.cM,Lw.aw,Lw.bI,Lw.cH,Lw.bP,Lw.bp,Lw.aE,Lw.bK,Lw.ax,Lw.am,Lw.cI,Lw.dm,Lw.eA,Lw.eB,Lw.ee,Lw.eD,Lw.dq,Lw.dr,Lw.df,Lw.cr,Lw.cN,Lw.cP,List.getElem?_cons_zero,List.getElem?_cons_succ,List.set_cons_zero,List.set_cons_succ,List.replicate,List.cons_append,List.nil_append,reduceCtorEq,false_or,or_false,or_self,if_false,if_true,ite_true,ite_false,Nat.reduceAdd,Nat.reduceSub,Nat.reduceLeDiff,Nat.zero_add,Bool.and_true,Bool.true_and,Bool.not_true,Bool.not_false,decide_true,decide_false,stR]) hm
 unfold bH
 rw [ff,aok]
 exact k1
theorem rr4 (c many rows:Int) (L' Fd:List Int) (e':Option D) (hF:Fd.length < 64):aK (fCB em (ac (aa 4) af)) (stR c many rows L' Fd e')=.rt (.lst .o ((fB Fd).map D.int)):=by
 have fs:fCB em (ac (aa 4) af) (stR c many rows L' Fd e')=.ok (.lst .o ((fB Fd).map D.int)):=by
  simp only [Lw.bok,Lw.eU,Lw.eV,Lw.aok,Lw.eW,Mi.aN,Mi.ao,Mi.gIf,Mi.aq,Mi.aK,Mi.aC,Mi.ft2,Mi.ftB,Mi.bh,Mi.f2,Mi.f1,Mi.fC,Mi.fFz,Mi.aa,Mi.fCB,Mi.ac,Mi.af,Mi.bd,Mi.bj,Mi.nb,List.all_cons,List.all_nil,List.length_cons,List.length_nil,List.map_cons,List.map_nil,Lw.bN,Lw.b7,Lw.cK,Lw.b8,Lw.b9,Lw.bR,Lw.cb,Lw.cc,Lw.cw,Lw.cx,Lw.dl,Lw.cL,Lw.cy,Lw.cz,Lw.cA,Lw.cB,Lw.b4,Lw.cM,Lw.aw,Lw.bI,Lw.cH,Lw.bP,Lw.bp,Lw.aE,Lw.bK,Lw.ax,Lw.am,Lw.cI,Lw.dm,Lw.eA,Lw.eB,Lw.ee,Lw.eD,Lw.dq,Lw.dr,Lw.df,Lw.cr,Lw.cN,Lw.cP,List.getElem?_cons_zero,List.getElem?_cons_succ,List.set_cons_zero,List.set_cons_succ,List.replicate,List.cons_append,List.nil_append,reduceCtorEq,false_or,or_false,or_self,if_false,if_true,ite_true,ite_false,Nat.reduceAdd,Nat.reduceSub,Nat.reduceLeDiff,Nat.zero_add,Bool.and_true,Bool.true_and,Bool.not_true,Bool.not_false,decide_true,decide_false,stR]
  exact uD .b Fd (Cc Fd) hF
 unfold aK
 rw [fs,aok,bR,if_neg (by simp)]
theorem bi {g1 g2:ae->FOut} {r r':ae} (h:g1 r=.nx r'):ao g1 g2 r=g2 r':=by unfold ao;rw [h]
theorem rr5 (a:Ads) (c:Int) (many rows:Nat) (hm:many < 1000) (hr:rows < 1000) {L' Fd:List Int} {e':Option D}
    (k1:bv (av 5) (eP 4 3 (fkR a)) (a7 0 many) (stR c many rows (L0 rows) [] none)=.nx (stR c many rows L' Fd e')) (hF:Fd.length < 64):gK a (nM c many rows)=.rt (.lst .o ((fB Fd).map D.int)):=by
 unfold gK
 rw [bi (rr1 c many rows hr),bi (rr2 c many rows),bi (rr3 a c many rows hm k1)]
 exact rr4 c many rows L' Fd e' hF
theorem vN (a:Ads) (c:Int) (many rows:Nat) (hm:many < 1000) (hr:rows < 1000) {L' Fd:List Int} {e':Option D}
    (k1:bv (av 5) (eP 4 3 (fkR a)) (a7 0 many) (stR c many rows (L0 rows) [] none)=.nx (stR c many rows L' Fd e')) (hF:Fd.length < 64) :
    bZ a [.int c,.int many,.int rows]=.ok (.lst .o ((fB Fd).map D.int)):=by
 have gg:=rr5 a c many rows hm hr k1 hF
 exact nL gg
theorem xy (a:Ads) (c:Int) (many rows:Nat) (h1:many <= rows) (h2:rows <= 8):∃ L,bZ a [.int c,.int many,.int rows]=.ok (.lst .o (L.map D.int))/\Rising rows many L:=by
 obtain ⟨L',Fd,e',k1,k2,k3⟩:=oA a c many rows many 0 ((List.range rows).map fun (i:Nat)=>(0 + (i:Int))) [] none (by simp;lia) (by simp;lia) (by lia) (by simp;lia)
 have hr:a7 0 many=(List.range' 0 many).map fun (j:Nat)=>D.int (0 + (j:Int)):=by rw [a7,List.range_eq_range']
 rw [<- hr] at k1
 have kl:Fd.length=many:=by rw [k3];simp
 have nd:(L' ++ Fd).Nodup:=by
  refine (k2.nodup_iff).mpr ?_
  rw [List.append_nil]
  exact List.Pairwise.map _ (fun a b h z=>h (by lia)) (List.nodup_range (n:=rows))
 have inn:∀ x ∈ Fd,0 <= x/\x < rows:=fun x hx=>by
  have:=k2.subset (List.mem_append_right L' hx)
  simp at this
  obtain ⟨i,hi,rfl⟩:=this
  lia
 refine ⟨fB Fd,vN a c many rows (by lia) (by lia) k1 (by lia),by rw [(gm Fd).length_eq,kl],?_,fun x hx=>inn x ((gm Fd).subset hx)⟩
 have h1:=kn Fd
 have h2:(fB Fd).Nodup:=((gm Fd).nodup_iff).mpr (List.nodup_append.mp nd).2.1
 exact (List.pairwise_and_iff.mpr ⟨h1,h2⟩).imp fun ⟨x,y⟩=>by lia
noncomputable def onI (f:Int->D):D->D:=fun d=>match d with | .int x=>f x | d=>d
theorem li (f:Int->D) (x:Int):onI f (.int x)=f x:=rfl
theorem oE {rest:ae} {fe:ae->Res D} {h:D->D}:∀ (items:List D) (e:Option D) (acc:List D),(∀ x ∈ items,fe (some x::rest)=.ok (h x)/\(h x).tag ≠ .b)->acc.length + items.length <= 1000 →
    bF (av 0) a8 fe items (e::rest) acc=.ok (acc ++ items.map h)
 | [],_,acc,_,_=>by rw [List.map_nil,List.append_nil];rfl
 | x::xs,e,acc,hh,hl=>by
  have hz:¬ sizeLine <= acc.length:=by
   have:(1000:Nat) < sizeLine:=by decide
   simp at hl;lia
  obtain ⟨h1,h2⟩:=hh x List.mem_cons_self
  unfold bF
  have ht:av 0 x (e::rest)=.ok (some x::rest):=by
   unfold av
   rw [if_neg (by simp)]
   rfl
  rw [ht,bok]
  show (a8 (some x::rest) >>= _)=_
  rw [show a8 (some x::rest)=.ok true from rfl,bok,if_pos rfl,h1,bok,if_neg (fun z=>z.elim h2 hz)]
  rw [oE xs (some x) (acc ++ [h x]) (fun y hy=>hh y (List.mem_cons_of_mem _ hy)) (by simp at hl ⊢;lia)]
  simp
theorem i9 {cap:List Nat} {fi:ae->Res (List D)} {fe:ae->Res D} {ρ:ae} {items:List D} (h:D->D) (hi:fi ρ=.ok items) (hh:∀ x ∈ items,fe (some x::cap.map (bn ρ))=.ok (h x)/\(h x).tag ≠ .b) (hl:items.length <= 1000) :
    aL 1 cap fi (av 0) a8 fe ρ=.ok (.lst .o (items.map h)):=by
 unfold aL
 rw [hi,bok]
 have:=oE (rest:=cap.map (bn ρ)) (fe:=fe) (h:=h) items none [] hh (by simpa using hl)
 show (match bF (av 0) a8 fe items (none::cap.map (bn ρ)) [] with
  | .ok ds=>Res.ok (D.lst .o ds)
  | _=>.bad)=_
 rw [this]
 rfl
theorem mU {n:Nat} {F:List D->Res D} {fa:ae->Res (List D)} {ρ:ae} {ds:List D} {d:D} (h:fa ρ=.ok ds) (hn:ds.length=n) (hF:F (D.fzs ds)=.ok d) (ha:d.atom=true):bU n F fa ρ=.ok d:=by
 unfold bU
 rw [h,bok,if_pos hn]
 have:fA F ds=.ok d:=by
  unfold fA
  rw [hF]
  show (if _ then _ else _)=_
  rw [if_pos (.inr ha)]
 rw [this]
theorem hX {n:Nat} {x:D} (h:x ∈ a7 0 n):∃ i:Nat,i < n/\x=.int i:=by
 unfold a7 at h
 obtain ⟨i,hi,rfl⟩:=List.mem_map.mp h
 exact ⟨i,List.mem_range.mp hi,by simp⟩
noncomputable def aj (t:Tg) (g:List (List Int)):List D:=g.map fun r=>D.lst t (r.map D.int)
noncomputable def bq (c shut:Int) (cols rows:Nat):List (List Int):=(List.range rows).map fun (y:Nat)=>(List.range cols).map fun (x:Nat)=>fF c (10 * (y:Int) + (x:Int)) shut
noncomputable def bG (c shut:Int) (cols rows:Nat):List (List Int):=(List.range rows).map fun (y:Nat)=>(List.range cols).map fun (x:Nat)=>fF c (200 + 10 * (y:Int) + (x:Int)) shut
noncomputable abbrev feR (a:Ads):ae->Res D:=aL 1 [0,1,3] (bW (ac (f2 dR (aa 2) (fC (.int 1))) af)) (av 0) a8 (bU 3 (bM a) (ac (aa 3) (ac (f2 aP (f2 dE (fC (.int 10)) (aa 1)) (aa 0)) (ac (aa 2) af))))
theorem uE (a:Ads) (c shut:Int) (cols y:Nat) (hs:0 < shut) (hc:cols < 100) (hy:y < 100) :
    feR a [some (.int y),some (.int shut),some (.int ((cols:Int) + 1)),some (.int c)]=.ok (.lst .o ((a7 0 cols).map (onI fun (x:Int)=>D.int (fF c (10 * (y:Int) + x) shut)))):=by
 refine i9 (items:=a7 0 cols) _ (eh ?_ (by lia)) (fun d hd=>?_) (by simp [a7];lia)
 ·simp only [Lw.bok,Lw.eU,Lw.eV,Lw.aok,Lw.eW,Mi.aN,Mi.ao,Mi.gIf,Mi.aq,Mi.aK,Mi.aC,Mi.ft2,Mi.ftB,Mi.bh,Mi.f2,Mi.f1,Mi.fC,Mi.fFz,Mi.aa,Mi.fCB,Mi.ac,Mi.af,Mi.bd,Mi.bj,Mi.nb,List.all_cons,List.all_nil,List.length_cons,List.length_nil,List.map_cons,List.map_nil,Lw.bN,Lw.b7,Lw.cK,Lw.b8,Lw.b9,Lw.bR,Lw.cb,Lw.cc,Lw.cw,Lw.cx,Lw.dl,Lw.cL,Lw.cy,Lw.cz,Lw.cA,Lw.cB,Lw.b4,Lw.cM,Lw.aw,Lw.bI,Lw.cH,Lw.bP,Lw.bp,Lw.aE,Lw.bK,Lw.ax,Lw.am,Lw.cI,Lw.dm,Lw.eA,Lw.eB,Lw.ee,Lw.eD,Lw.dq,Lw.dr,Lw.df,Lw.cr,Lw.cN,Lw.cP,List.getElem?_cons_zero,List.getElem?_cons_succ,List.set_cons_zero,List.set_cons_succ,List.replicate,List.cons_append,List.nil_append,reduceCtorEq,false_or,or_false,or_self,if_false,if_true,ite_true,ite_false,Nat.reduceAdd,Nat.reduceSub,Nat.reduceLeDiff,Nat.zero_add,Bool.and_true,Bool.true_and,Bool.not_true,Bool.not_false,decide_true,decide_false]
  congr 3
  lia
 ·obtain ⟨x,hx,rfl⟩:=hX hd
  refine ⟨?_,ntb rfl⟩
  refine mU (ds:=[.int c,.int (10 * (y:Int) + (x:Int)),.int shut]) ?_ rfl ?_ rfl
  ·simp only [Lw.bok,Lw.eU,Lw.eV,Lw.aok,Lw.eW,Mi.aN,Mi.ao,Mi.gIf,Mi.aq,Mi.aK,Mi.aC,Mi.ft2,Mi.ftB,Mi.bh,Mi.f2,Mi.f1,Mi.fC,Mi.fFz,Mi.aa,Mi.fCB,Mi.ac,Mi.af,Mi.bd,Mi.bj,Mi.nb,List.all_cons,List.all_nil,List.length_cons,List.length_nil,List.map_cons,List.map_nil,Lw.bN,Lw.b7,Lw.cK,Lw.b8,Lw.b9,Lw.bR,Lw.cb,Lw.cc,Lw.cw,Lw.cx,Lw.dl,Lw.cL,Lw.cy,Lw.cz,Lw.cA,Lw.cB,Lw.b4,Lw.cM,Lw.aw,Lw.bI,Lw.cH,Lw.bP,Lw.bp,Lw.aE,Lw.bK,Lw.ax,Lw.am,Lw.cI,Lw.dm,Lw.eA,Lw.eB,Lw.ee,Lw.eD,Lw.dq,Lw.dr,Lw.df,Lw.cr,Lw.cN,Lw.cP,List.getElem?_cons_zero,List.getElem?_cons_succ,List.set_cons_zero,List.set_cons_succ,List.replicate,List.cons_append,List.nil_append,reduceCtorEq,false_or,or_false,or_self,if_false,if_true,ite_true,ite_false,Nat.reduceAdd,Nat.reduceSub,Nat.reduceLeDiff,Nat.zero_add,Bool.and_true,Bool.true_and,Bool.not_true,Bool.not_false,decide_true,decide_false,bn,kG 10 _ (by decide)]
  ·rw [am,am,am,ax,aw,aw,aw]
   exact rf a c _ shut (by lia) (by lia) hs
theorem nN (cols:Nat) (f:Int->Int):((a7 0 cols).map (onI fun (x:Int)=>D.int (f x)))=((List.range cols).map fun (x:Nat)=>f (x:Int)).map D.int:=by
 unfold a7
 rw [List.map_map,List.map_map]
 refine List.map_congr_left fun x _=>?_
 simp only [Function.comp_apply,li,Int.zero_add]
theorem sr (a:Ads) (c shut:Int) (cols rows:Nat) (hs:0 < shut) (hc:cols < 100) (hr:rows < 100) {ρ:ae} (h3:ρ[3]?=some (some (.int shut))) (h4:ρ[4]?=some (some (.int ((cols:Int) + 1)))) (h5:ρ[5]?=some (some (.int rows))) (h6:ρ[6]?=some (some (.int c))) :
    aL 1 [3,4,6] (bW (ac (aa 5) af)) (av 0) a8 (feR a) ρ=.ok (.lst .o (aj .o (bq c shut cols rows))):=by
 have e:=i9 (cap:=[3,4,6]) (fi:=bW (ac (aa 5) af)) (fe:=feR a) (ρ:=ρ) (items:=a7 0 rows) ((onI fun (y:Int)=>D.lst .o (((List.range cols).map fun (x:Nat)=>fF c (10 * y + (x:Int)) shut).map D.int)))
  (eh (by unfold ac af;rw [b5 5 ρ _ h5];simp only [Lw.bok,Lw.eU,Lw.eV,Lw.aok,Lw.eW,Mi.aN,Mi.ao,Mi.gIf,Mi.aq,Mi.aK,Mi.aC,Mi.ft2,Mi.ftB,Mi.bh,Mi.f2,Mi.f1,Mi.fC,Mi.fFz,Mi.aa,Mi.fCB,Mi.ac,Mi.af,Mi.bd,Mi.bj,Mi.nb,List.all_cons,List.all_nil,List.length_cons,List.length_nil,List.map_cons,List.map_nil,Lw.bN,Lw.b7,Lw.cK,Lw.b8,Lw.b9,Lw.bR,Lw.cb,Lw.cc,Lw.cw,Lw.cx,Lw.dl,Lw.cL,Lw.cy,Lw.cz,Lw.cA,Lw.cB,Lw.b4,Lw.cM,Lw.aw,Lw.bI,Lw.cH,Lw.bP,Lw.bp,Lw.aE,Lw.bK,Lw.ax,Lw.am,Lw.cI,Lw.dm,Lw.eA,Lw.eB,Lw.ee,Lw.eD,Lw.dq,Lw.dr,Lw.df,Lw.cr,Lw.cN,Lw.cP,List.getElem?_cons_zero,List.getElem?_cons_succ,List.set_cons_zero,List.set_cons_succ,List.replicate,List.cons_append,List.nil_append,reduceCtorEq,false_or,or_false,or_self,if_false,if_true,ite_true,ite_false,Nat.reduceAdd,Nat.reduceSub,Nat.reduceLeDiff,Nat.zero_add,Bool.and_true,Bool.true_and,Bool.not_true,Bool.not_false,decide_true,decide_false]) (by lia)) (fun d hd=>?_) (by simp [a7];lia)
 ·rw [e]
  congr 2
  unfold a7 aj bq
  rw [List.map_map,List.map_map]
  refine List.map_congr_left fun y _=>?_
  simp only [Function.comp_apply,li,Int.zero_add]
 ·obtain ⟨y,hy,rfl⟩:=hX hd
  refine ⟨?_,ntb rfl⟩
  have hcap:[3,4,6].map (bn ρ)=[some (.int shut),some (.int ((cols:Int) + 1)),some (.int c)]:=by
   simp only [List.map_cons,List.map_nil,bn,h3,h4,h6,bN,if_true]
  rw [hcap,uE a c shut cols y hs hc (by lia),nN cols fun x=>fF c (10 * (y:Int) + x) shut,li]
noncomputable abbrev feU (a:Ads):ae->Res D:=aL 1 [0,1,3] (bW (ac (aa 2) af)) (av 0) a8 (bU 3 (bM a) (ac (aa 3) (ac (f2 aP (f2 aP (fC (.int 200)) (f2 dE (fC (.int 10)) (aa 1))) (aa 0)) (ac (aa 2) af))))
theorem ze (a:Ads) (c shut:Int) (cols y:Nat) (hs:0 < shut) (hc:cols < 100) (hy:y < 100) :
    feU a [some (.int y),some (.int shut),some (.int (cols:Int)),some (.int c)]=.ok (.lst .o ((a7 0 cols).map (onI fun (x:Int)=>D.int (fF c (200 + 10 * (y:Int) + x) shut)))):=by
 refine i9 (items:=a7 0 cols) _ (eh ?_ (by lia)) (fun d hd=>?_) (by simp [a7];lia)
 ·simp only [Lw.bok,Lw.eU,Lw.eV,Lw.aok,Lw.eW,Mi.aN,Mi.ao,Mi.gIf,Mi.aq,Mi.aK,Mi.aC,Mi.ft2,Mi.ftB,Mi.bh,Mi.f2,Mi.f1,Mi.fC,Mi.fFz,Mi.aa,Mi.fCB,Mi.ac,Mi.af,Mi.bd,Mi.bj,Mi.nb,List.all_cons,List.all_nil,List.length_cons,List.length_nil,List.map_cons,List.map_nil,Lw.bN,Lw.b7,Lw.cK,Lw.b8,Lw.b9,Lw.bR,Lw.cb,Lw.cc,Lw.cw,Lw.cx,Lw.dl,Lw.cL,Lw.cy,Lw.cz,Lw.cA,Lw.cB,Lw.b4,Lw.cM,Lw.aw,Lw.bI,Lw.cH,Lw.bP,Lw.bp,Lw.aE,Lw.bK,Lw.ax,Lw.am,Lw.cI,Lw.dm,Lw.eA,Lw.eB,Lw.ee,Lw.eD,Lw.dq,Lw.dr,Lw.df,Lw.cr,Lw.cN,Lw.cP,List.getElem?_cons_zero,List.getElem?_cons_succ,List.set_cons_zero,List.set_cons_succ,List.replicate,List.cons_append,List.nil_append,reduceCtorEq,false_or,or_false,or_self,if_false,if_true,ite_true,ite_false,Nat.reduceAdd,Nat.reduceSub,Nat.reduceLeDiff,Nat.zero_add,Bool.and_true,Bool.true_and,Bool.not_true,Bool.not_false,decide_true,decide_false]
 ·obtain ⟨x,hx,rfl⟩:=hX hd
  refine ⟨?_,ntb rfl⟩
  refine mU (ds:=[.int c,.int (200 + 10 * (y:Int) + (x:Int)),.int shut]) ?_ rfl ?_ rfl
  ·simp only [Lw.bok,Lw.eU,Lw.eV,Lw.aok,Lw.eW,Mi.aN,Mi.ao,Mi.gIf,Mi.aq,Mi.aK,Mi.aC,Mi.ft2,Mi.ftB,Mi.bh,Mi.f2,Mi.f1,Mi.fC,Mi.fFz,Mi.aa,Mi.fCB,Mi.ac,Mi.af,Mi.bd,Mi.bj,Mi.nb,List.all_cons,List.all_nil,List.length_cons,List.length_nil,List.map_cons,List.map_nil,Lw.bN,Lw.b7,Lw.cK,Lw.b8,Lw.b9,Lw.bR,Lw.cb,Lw.cc,Lw.cw,Lw.cx,Lw.dl,Lw.cL,Lw.cy,Lw.cz,Lw.cA,Lw.cB,Lw.b4,Lw.cM,Lw.aw,Lw.bI,Lw.cH,Lw.bP,Lw.bp,Lw.aE,Lw.bK,Lw.ax,Lw.am,Lw.cI,Lw.dm,Lw.eA,Lw.eB,Lw.ee,Lw.eD,Lw.dq,Lw.dr,Lw.df,Lw.cr,Lw.cN,Lw.cP,List.getElem?_cons_zero,List.getElem?_cons_succ,List.set_cons_zero,List.set_cons_succ,List.replicate,List.cons_append,List.nil_append,reduceCtorEq,false_or,or_false,or_self,if_false,if_true,ite_true,ite_false,Nat.reduceAdd,Nat.reduceSub,Nat.reduceLeDiff,Nat.zero_add,Bool.and_true,Bool.true_and,Bool.not_true,Bool.not_false,decide_true,decide_false,bn,kG 10 _ (by decide)]
  ·rw [am,am,am,ax,aw,aw,aw]
   exact rf a c _ shut (by lia) (by lia) hs
theorem xz (a:Ads) (c shut:Int) (cols rows:Nat) (hs:0 < shut) (hc:cols < 100) (hr:rows < 100) {ρ:ae} (h3:ρ[3]?=some (some (.int shut))) (h4:ρ[4]?=some (some (.int (cols:Int)))) (h5:ρ[5]?=some (some (.int ((rows:Int) + 1)))) (h6:ρ[6]?=some (some (.int c))) :
    aL 1 [3,4,6] (bW (ac (f2 dR (aa 5) (fC (.int 1))) af)) (av 0) a8 (feU a) ρ=.ok (.lst .o (aj .o (bG c shut cols rows))):=by
 have e:=i9 (cap:=[3,4,6]) (fi:=bW (ac (f2 dR (aa 5) (fC (.int 1))) af)) (fe:=feU a) (ρ:=ρ) (items:=a7 0 rows) ((onI fun (y:Int)=>D.lst .o (((List.range cols).map fun (x:Nat)=>fF c (200 + 10 * y + (x:Int)) shut).map D.int)))
  (eh (by
   unfold ac af f2 fC
   rw [b5 5 ρ _ h5]
   simp only [Lw.bok,Lw.eU,Lw.eV,Lw.aok,Lw.eW,Mi.aN,Mi.ao,Mi.gIf,Mi.aq,Mi.aK,Mi.aC,Mi.ft2,Mi.ftB,Mi.bh,Mi.f2,Mi.f1,Mi.fC,Mi.fFz,Mi.aa,Mi.fCB,Mi.ac,Mi.af,Mi.bd,Mi.bj,Mi.nb,List.all_cons,List.all_nil,List.length_cons,List.length_nil,List.map_cons,List.map_nil,Lw.bN,Lw.b7,Lw.cK,Lw.b8,Lw.b9,Lw.bR,Lw.cb,Lw.cc,Lw.cw,Lw.cx,Lw.dl,Lw.cL,Lw.cy,Lw.cz,Lw.cA,Lw.cB,Lw.b4,Lw.cM,Lw.aw,Lw.bI,Lw.cH,Lw.bP,Lw.bp,Lw.aE,Lw.bK,Lw.ax,Lw.am,Lw.cI,Lw.dm,Lw.eA,Lw.eB,Lw.ee,Lw.eD,Lw.dq,Lw.dr,Lw.df,Lw.cr,Lw.cN,Lw.cP,List.getElem?_cons_zero,List.getElem?_cons_succ,List.set_cons_zero,List.set_cons_succ,List.replicate,List.cons_append,List.nil_append,reduceCtorEq,false_or,or_false,or_self,if_false,if_true,ite_true,ite_false,Nat.reduceAdd,Nat.reduceSub,Nat.reduceLeDiff,Nat.zero_add,Bool.and_true,Bool.true_and,Bool.not_true,Bool.not_false,decide_true,decide_false]
   congr 3
   lia) (by lia)) (fun d hd=>?_) (by simp [a7];lia)
 ·rw [e]
  congr 2
  unfold a7 aj bG
  rw [List.map_map,List.map_map]
  refine List.map_congr_left fun y _=>?_
  simp only [Function.comp_apply,li,Int.zero_add]
 ·obtain ⟨y,hy,rfl⟩:=hX hd
  refine ⟨?_,ntb rfl⟩
  have hcap:[3,4,6].map (bn ρ)=[some (.int shut),some (.int (cols:Int)),some (.int c)]:=by
   simp only [List.map_cons,List.map_nil,bn,h3,h4,h6,bN,if_true]
  rw [hcap,ze a c shut cols y hs hc (by lia)]
  exact congrArg (fun l=>Res.ok (D.lst Tg.o l)) (nN cols fun x=>fF c (200 + 10 * (y:Int) + x) shut)
theorem eE (t:Tg):∀ g:List (List Int),D.fzs (aj t g)=aj .f g
 | []=>ax
 | r::g=>by
  show D.fzs (D.lst t (r.map D.int)::aj t g)=_
  rw [am,aE,cU,eE t g]
  rfl
structure Parts where
 cols:Nat
 rows:Nat
 right:List (List Int)
 up:List (List Int)
 starts:List Int
 ends:List Int
noncomputable def Parts.d (p:Parts):D:=.tup [.lst .f (aj .f p.right),.lst .f (aj .f p.up),.lst .f (p.starts.map D.int),.lst .f (p.ends.map D.int)]
structure Good (most walkers:Nat) (p:Parts):Prop where
 c1:1 <= p.cols/\p.cols <= most
 r1:1 <= p.rows/\p.rows <= most
 rl:p.right.length=p.rows
 rr:∀ r ∈ p.right,r.length + 1=p.cols/\∀ v ∈ r,0 <= v/\v <= 1000
 ul:p.up.length + 1=p.rows
 ur:∀ r ∈ p.up,r.length=p.cols/\∀ v ∈ r,0 <= v/\v <= 1000
 many:∃ m,1 <= m/\m <= walkers/\Rising p.rows m p.starts/\Rising p.rows m p.ends
theorem vO (c shut:Int) (cols rows:Nat) (hs:0 < shut):(bq c shut cols rows).length=rows/\∀ r ∈ bq c shut cols rows,r.length=cols/\∀ v ∈ r,0 <= v/\v <= 1000:=by
 refine ⟨by simp [bq],fun r hr=>?_⟩
 obtain ⟨y,_,rfl⟩:=List.mem_map.mp hr
 refine ⟨by simp,fun v hv=>?_⟩
 obtain ⟨x,_,rfl⟩:=List.mem_map.mp hv
 exact pV _ _ _ hs
theorem vP (c shut:Int) (cols rows:Nat) (hs:0 < shut):(bG c shut cols rows).length=rows/\∀ r ∈ bG c shut cols rows,r.length=cols/\∀ v ∈ r,0 <= v/\v <= 1000:=by
 refine ⟨by simp [bG],fun r hr=>?_⟩
 obtain ⟨y,_,rfl⟩:=List.mem_map.mp hr
 refine ⟨by simp,fun v hv=>?_⟩
 obtain ⟨x,_,rfl⟩:=List.mem_map.mp hv
 exact pV _ _ _ hs
theorem kH (ns:List Int):(D.scr ns).fz=.scr ns:=rfl
theorem uF {i:Nat} {f:ae->Res D} {ρ:ae} {d:D} (h:f ρ=.ok d) (hb:d.tag ≠ .b) (hi:i < ρ.length):aq i f ρ=.nx (ρ.set i (some d)):=by
 unfold aq
 rw [h,aok,if_neg (fun z=>z.elim hb (by lia))]
theorem wy {f:ae->Res D} {ρ:ae} {d:D} (h:f ρ=.ok d) (hb:d.tag ≠ .b):fFz f ρ=.ok d.fz:=by
 unfold fFz
 rw [h,bok,if_neg hb]
theorem ga {i:Nat} {f:ae->Res D} {ρ:ae} {d:D} (h:f ρ=.ok d) (hb:d.tag ≠ .b) (hi:i < ρ.length):aq i (fFz f) ρ=.nx (ρ.set i (some d.fz)):=uF (wy h hb) (by rw [d.fz_tag];decide) hi
theorem ce {f:ae->Res D} {g:ae->Res (List D)} {ρ:ae} {d:D} {ds:List D} (h1:f ρ=.ok d) (h2:g ρ=.ok ds):ac f g ρ=.ok (d::ds):=by unfold ac;rw [h1,bok,h2,bok]
theorem iQ {g:D->D->Res D} {f1 f2':ae->Res D} {ρ:ae} {x y:D} (h1:f1 ρ=.ok x) (h2:f2' ρ=.ok y):f2 g f1 f2' ρ=g x y:=by unfold f2;rw [h1,bok,h2,bok]
theorem vQ {n:Nat} {F:List D->Res D} {fa:ae->Res (List D)} {ρ:ae} {ds:List D} {d:D} (h:fa ρ=.ok ds) (hn:ds.length=n) (hF:F (D.fzs ds)=.ok d) (hb:nb ds=true) (ht:d.tag ≠ .b):au n F fa ρ=.ok d:=by
 unfold au
 rw [h,bok,if_pos hn]
 unfold fA
 rw [hF]
 show (if _ then _ else _)=_
 rw [if_pos (.inl ⟨hb,ht⟩)]
theorem gi (a:Ads) (ns:List Int) (k:Nat) {ρ:ae} (h:ρ[0]?=some (some (.scr ns))):au 2 (az a) (ac (aa 0) (ac (fC (.int (k:Int))) af)) ρ=.ok (.int (cell ns k)):=by
 refine cC (ds:=[.scr ns,.int k]) ?_ rfl ?_ rfl
 ·unfold ac af fC
  rw [b5 0 ρ _ h]
  rfl
 ·rw [am,am,ax,kH,aw]
  exact nK a ns k
theorem pW (a:Ads) (ns:List Int) (k:Nat) {ρ:ae} (j:Nat) (m:Int) (h:ρ[0]?=some (some (.scr ns))) (hj:ρ[j]?=some (some (.int m))) (hm:0 < m) :
    f2 aP (fC (.int 1)) (f2 cX (au 2 (az a) (ac (aa 0) (ac (fC (.int (k:Int))) af))) (aa j)) ρ=.ok (.int (1 + cell ns k % m)):=by
 rw [iQ (x:=.int 1) rfl ((iQ (gi a ns k h) (b5 j ρ _ hj)).trans (gT _ _ hm)),cI]
theorem oF (a:Ads) (ns:List Int) (k:Nat) (many rows:Nat) {ρ:ae} (h:ρ[0]?=some (some (.scr ns))) (h9:ρ[9]?=some (some (.int many))) (h5:ρ[5]?=some (some (.int rows))) (h1:many <= rows) (h2:rows <= 8) :
    ∃ L,au 3 (bZ a) (ac (au 2 (az a) (ac (aa 0) (ac (fC (.int (k:Int))) af))) (ac (aa 9) (ac (aa 5) af))) ρ=.ok (.lst .o (L.map D.int))/\Rising rows many L:=by
 obtain ⟨L,e,r⟩:=xy a (cell ns k) many rows h1 h2
 refine ⟨L,?_,r⟩
 refine vQ (ds:=[.int (cell ns k),.int many,.int rows]) (ce (gi a ns k h) (ce (b5 9 ρ _ h9) (ce (b5 5 ρ _ h5) rfl))) rfl ?_ rfl (ntb rfl)
 rw [am,am,am,ax,aw,aw,aw,e]
theorem pX (rows many:Nat) (h:many <= rows):Rising rows many ((List.range many).map fun (i:Nat)=>(0 + (i:Int))):=by
 refine ⟨by simp,List.Pairwise.map _ (fun a b h=>by lia) (List.pairwise_lt_range (n:=many)),fun x hx=>?_⟩
 obtain ⟨i,hi,rfl⟩:=List.mem_map.mp hx
 have:=List.mem_range.mp hi
 lia
theorem su (rows many:Nat) (h:many <= rows):Rising rows many ((List.range many).map fun (i:Nat)=>((rows:Int) - many + (i:Int))):=by
 refine ⟨by simp,List.Pairwise.map _ (fun a b h=>by lia) (List.pairwise_lt_range (n:=many)),fun x hx=>?_⟩
 obtain ⟨i,hi,rfl⟩:=List.mem_map.mp hx
 have:=List.mem_range.mp hi
 lia
noncomputable def E0 (ns:List Int) (most walkers:Nat) (shut:Int) (v4 v5 v6 v7 v8 v9:Option D):ae:=[some (.scr ns),some (.int most),some (.int walkers),some (.int shut),v4,v5,v6,v7,v8,v9,none,none]
noncomputable def E1 (ns:List Int) (most walkers:Nat) (shut:Int) (C R:Nat) (c:Int) (r u:D) (M:Nat) (st en:Option D):ae:=
 [some (.scr ns),some (.int most),some (.int walkers),some (.int shut),some (.int ((C:Int) + 1)),some (.int ((R + 1:Nat):Int)),some (.int c),some r,some u,some (.int M),st,en]
theorem vR (a:Ads) (ns:List Int) (most walkers:Nat) (shut:Int) (hm:1 <= most) (hm8:most <= 8) (hw:1 <= walkers) (hs:0 < shut):∃ p:Parts,Good most walkers p/\∃ d,de a [.scr ns,.int most,.int walkers,.int shut]=.ok d/\d=p.d:=by
 obtain ⟨C,hC,hC2⟩:∃ C:Nat,1 + cell ns 0 % (most:Int)=(C:Int) + 1/\C < most:=⟨(cell ns 0 % (most:Int)).toNat,by have:=Int.emod_nonneg (cell ns 0) (b:=(most:Int)) (by lia);lia,by have:=Int.emod_lt_of_pos (cell ns 0) (b:=(most:Int)) (by lia);have:=Int.emod_nonneg (cell ns 0) (b:=(most:Int)) (by lia);lia⟩
 obtain ⟨R,hR,hR2⟩:∃ R:Nat,1 + cell ns 1 % (most:Int)=(R:Int) + 1/\R < most:=⟨(cell ns 1 % (most:Int)).toNat,by have:=Int.emod_nonneg (cell ns 1) (b:=(most:Int)) (by lia);lia,by have:=Int.emod_lt_of_pos (cell ns 1) (b:=(most:Int)) (by lia);have:=Int.emod_nonneg (cell ns 1) (b:=(most:Int)) (by lia);lia⟩
 have hmn:0 < (if ((R:Int) + 1) < (walkers:Int) then ((R:Int) + 1) else (walkers:Int)):=by split <;> lia
 obtain ⟨M,hM,hM2,hM3⟩:∃ M:Nat,1 + cell ns 4 % (if ((R:Int) + 1) < (walkers:Int) then ((R:Int) + 1) else (walkers:Int))=(M:Int)/\1 <= M/\M <= R + 1/\M <= walkers:=by
  have h1:=Int.emod_nonneg (cell ns 4) (b:=(if ((R:Int) + 1) < (walkers:Int) then ((R:Int) + 1) else (walkers:Int))) (by lia)
  have h2:=Int.emod_lt_of_pos (cell ns 4) hmn
  refine ⟨(1 + cell ns 4 % (if ((R:Int) + 1) < (walkers:Int) then ((R:Int) + 1) else (walkers:Int))).toNat,by lia,by lia,?_,?_⟩ <;> split at h2 <;> split <;> lia
 obtain ⟨L1,s1,r1⟩:=oF a ns 5 M (R + 1) (ρ:=E1 ns most walkers shut C R (cell ns 3) (.lst .f (aj .f (bq (cell ns 2) shut C (R + 1)))) (.lst .f (aj .f (bG (cell ns 3) shut (C + 1) R))) M none none) rfl rfl rfl (by lia) (by lia)
 obtain ⟨L2,s2,r2⟩:=oF a ns 6 M (R + 1) (ρ:=E1 ns most walkers shut C R (cell ns 3) (.lst .f (aj .f (bq (cell ns 2) shut C (R + 1)))) (.lst .f (aj .f (bG (cell ns 3) shut (C + 1) R))) M (some (.lst .f (L1.map D.int))) none) rfl rfl rfl (by lia) (by lia)
 have h4:aq 4 (fFz (f2 aP (fC (.int 1)) (f2 cX (au 2 (az a) (ac (aa 0) (ac (fC (.int 0)) af))) (aa 1)))) (E0 ns most walkers shut none none none none none none)=.nx (E0 ns most walkers shut (some (.int ((C:Int) + 1))) none none none none none):=by
  have:=ga (i:=4) (ρ:=E0 ns most walkers shut none none none none none none) (pW a ns 0 1 most rfl rfl (by lia)) (ntb rfl) (by show 4 < 12;decide)
  rw [hC,aw] at this
  exact this
 have h5:aq 5 (fFz (f2 aP (fC (.int 1)) (f2 cX (au 2 (az a) (ac (aa 0) (ac (fC (.int 1)) af))) (aa 1)))) (E0 ns most walkers shut (some (.int ((C:Int) + 1))) none none none none none)=.nx (E0 ns most walkers shut (some (.int ((C:Int) + 1))) (some (.int ((R + 1:Nat):Int))) none none none none):=by
  have:=ga (i:=5) (ρ:=E0 ns most walkers shut (some (.int ((C:Int) + 1))) none none none none none) (pW a ns 1 1 most rfl rfl (by lia)) (ntb rfl) (by show 5 < 12;decide)
  rw [hR,aw] at this
  exact this
 have h6:aq 6 (fFz (au 2 (az a) (ac (aa 0) (ac (fC (.int 2)) af)))) (E0 ns most walkers shut (some (.int ((C:Int) + 1))) (some (.int ((R + 1:Nat):Int))) none none none none)=.nx (E0 ns most walkers shut (some (.int ((C:Int) + 1))) (some (.int ((R + 1:Nat):Int))) (some (.int (cell ns 2))) none none none):=by
  have:=ga (i:=6) (ρ:=E0 ns most walkers shut (some (.int ((C:Int) + 1))) (some (.int ((R + 1:Nat):Int))) none none none none) (gi a ns 2 rfl) (ntb rfl) (by show 6 < 12;decide)
  rw [aw] at this
  exact this
 have h7:aq 7 (fFz (aL 1 [3,4,6] (bW (ac (aa 5) af)) (av 0) a8 (feR a))) (E0 ns most walkers shut (some (.int ((C:Int) + 1))) (some (.int ((R + 1:Nat):Int))) (some (.int (cell ns 2))) none none none)=.nx (E0 ns most walkers shut (some (.int ((C:Int) + 1))) (some (.int ((R + 1:Nat):Int))) (some (.int (cell ns 2))) (some (.lst .f (aj .f (bq (cell ns 2) shut C (R + 1))))) none none):=by
  have:=ga (i:=7) (ρ:=E0 ns most walkers shut (some (.int ((C:Int) + 1))) (some (.int ((R + 1:Nat):Int))) (some (.int (cell ns 2))) none none none) (sr a (cell ns 2) shut C (R + 1) hs (by lia) (by lia) rfl rfl rfl rfl) (ntb rfl) (by show 7 < 12;decide)
  rw [aE,eE] at this
  exact this
 have h6b:aq 6 (fFz (au 2 (az a) (ac (aa 0) (ac (fC (.int 3)) af)))) (E0 ns most walkers shut (some (.int ((C:Int) + 1))) (some (.int ((R + 1:Nat):Int))) (some (.int (cell ns 2))) (some (.lst .f (aj .f (bq (cell ns 2) shut C (R + 1))))) none none)=.nx (E0 ns most walkers shut (some (.int ((C:Int) + 1))) (some (.int ((R + 1:Nat):Int))) (some (.int (cell ns 3))) (some (.lst .f (aj .f (bq (cell ns 2) shut C (R + 1))))) none none):=by
  have:=ga (i:=6) (ρ:=(E0 ns most walkers shut (some (.int ((C:Int) + 1))) (some (.int ((R + 1:Nat):Int))) (some (.int (cell ns 2))) (some (.lst .f (aj .f (bq (cell ns 2) shut C (R + 1))))) none none)) (gi a ns 3 rfl) (ntb rfl) (by show 6 < 12;decide)
  rw [aw] at this
  exact this
 have h8:aq 8 (fFz (aL 1 [3,4,6] (bW (ac (f2 dR (aa 5) (fC (.int 1))) af)) (av 0) a8 (feU a))) (E0 ns most walkers shut (some (.int ((C:Int) + 1))) (some (.int ((R + 1:Nat):Int))) (some (.int (cell ns 3))) (some (.lst .f (aj .f (bq (cell ns 2) shut C (R + 1))))) none none)=.nx (E0 ns most walkers shut (some (.int ((C:Int) + 1))) (some (.int ((R + 1:Nat):Int))) (some (.int (cell ns 3))) (some (.lst .f (aj .f (bq (cell ns 2) shut C (R + 1))))) (some (.lst .f (aj .f (bG (cell ns 3) shut (C + 1) R)))) none):=by
  have:=ga (i:=8) (ρ:=(E0 ns most walkers shut (some (.int ((C:Int) + 1))) (some (.int ((R + 1:Nat):Int))) (some (.int (cell ns 3))) (some (.lst .f (aj .f (bq (cell ns 2) shut C (R + 1))))) none none)) (xz a (cell ns 3) shut (C + 1) R hs (by lia) (by lia) rfl rfl rfl rfl) (ntb rfl) (by show 8 < 12;decide)
  rw [aE,eE] at this
  exact this
 have h9:aq 9 (fFz (f2 aP (fC (.int 1)) (f2 cX (au 2 (az a) (ac (aa 0) (ac (fC (.int 4)) af))) (fCB jH (ac (aa 2) (ac (aa 5) af)))))) (E0 ns most walkers shut (some (.int ((C:Int) + 1))) (some (.int ((R + 1:Nat):Int))) (some (.int (cell ns 3))) (some (.lst .f (aj .f (bq (cell ns 2) shut C (R + 1))))) (some (.lst .f (aj .f (bG (cell ns 3) shut (C + 1) R)))) none)=.nx (E1 ns most walkers shut C R (cell ns 3) (.lst .f (aj .f (bq (cell ns 2) shut C (R + 1)))) (.lst .f (aj .f (bG (cell ns 3) shut (C + 1) R))) M none none):=by
  have e:=(iQ (g:=aP) (f1:=fC (.int 1)) (x:=.int 1) (ρ:=(E0 ns most walkers shut (some (.int ((C:Int) + 1))) (some (.int ((R + 1:Nat):Int))) (some (.int (cell ns 3))) (some (.lst .f (aj .f (bq (cell ns 2) shut C (R + 1))))) (some (.lst .f (aj .f (bG (cell ns 3) shut (C + 1) R)))) none)) rfl ((iQ (g:=cX) (gi a ns 4 rfl) (show fCB jH (ac (aa 2) (ac (aa 5) af)) (E0 ns most walkers shut (some (.int ((C:Int) + 1))) (some (.int ((R + 1:Nat):Int))) (some (.int (cell ns 3))) (some (.lst .f (aj .f (bq (cell ns 2) shut C (R + 1))))) (some (.lst .f (aj .f (bG (cell ns 3) shut (C + 1) R)))) none)=.ok (.int (if ((R:Int) + 1) < (walkers:Int) then ((R:Int) + 1) else (walkers:Int))) from rfl)).trans (gT _ _ hmn))).trans (cI _ _)
  have:=ga (i:=9) e (ntb rfl) (by show 9 < 12;decide)
  rw [hM,aw] at this
  exact this
 have h10:aq 10 (fFz (au 3 (bZ a) (ac (au 2 (az a) (ac (aa 0) (ac (fC (.int 5)) af))) (ac (aa 9) (ac (aa 5) af))))) (E1 ns most walkers shut C R (cell ns 3) (.lst .f (aj .f (bq (cell ns 2) shut C (R + 1)))) (.lst .f (aj .f (bG (cell ns 3) shut (C + 1) R))) M none none)=.nx (E1 ns most walkers shut C R (cell ns 3) (.lst .f (aj .f (bq (cell ns 2) shut C (R + 1)))) (.lst .f (aj .f (bG (cell ns 3) shut (C + 1) R))) M (some (.lst .f (L1.map D.int))) none):=by
  have:=ga (i:=10) s1 (ntb rfl) (by show 10 < 12;decide)
  rw [aE,cU] at this
  exact this
 have h11:aq 11 (fFz (au 3 (bZ a) (ac (au 2 (az a) (ac (aa 0) (ac (fC (.int 6)) af))) (ac (aa 9) (ac (aa 5) af))))) (E1 ns most walkers shut C R (cell ns 3) (.lst .f (aj .f (bq (cell ns 2) shut C (R + 1)))) (.lst .f (aj .f (bG (cell ns 3) shut (C + 1) R))) M (some (.lst .f (L1.map D.int))) none)=.nx (E1 ns most walkers shut C R (cell ns 3) (.lst .f (aj .f (bq (cell ns 2) shut C (R + 1)))) (.lst .f (aj .f (bG (cell ns 3) shut (C + 1) R))) M (some (.lst .f (L1.map D.int))) (some (.lst .f (L2.map D.int)))):=by
  have:=ga (i:=11) s2 (ntb rfl) (by show 11 < 12;decide)
  rw [aE,cU] at this
  exact this
 have hret:∀ S T:List Int,aK (bj (ac (aa 7) (ac (aa 8) (ac (aa 10) (ac (aa 11) af))))) (E1 ns most walkers shut C R (cell ns 3) (.lst .f (aj .f (bq (cell ns 2) shut C (R + 1)))) (.lst .f (aj .f (bG (cell ns 3) shut (C + 1) R))) M (some (.lst .f ((S).map D.int))) (some (.lst .f ((T).map D.int))))=.rt (Parts.d ⟨C + 1,R + 1,bq (cell ns 2) shut C (R + 1),bG (cell ns 3) shut (C + 1) R,S,T⟩):=fun S T=>by
  have hz:(4:Nat) <= sizeLine:=by decide
  simp only [Lw.bok,Lw.eU,Lw.eV,Lw.aok,Lw.eW,Mi.aN,Mi.ao,Mi.gIf,Mi.aq,Mi.aK,Mi.aC,Mi.ft2,Mi.ftB,Mi.bh,Mi.f2,Mi.f1,Mi.fC,Mi.fFz,Mi.aa,Mi.fCB,Mi.ac,Mi.af,Mi.bd,Mi.bj,Mi.nb,List.all_cons,List.all_nil,List.length_cons,List.length_nil,List.map_cons,List.map_nil,Lw.bN,Lw.b7,Lw.cK,Lw.b8,Lw.b9,Lw.bR,Lw.cb,Lw.cc,Lw.cw,Lw.cx,Lw.dl,Lw.cL,Lw.cy,Lw.cz,Lw.cA,Lw.cB,Lw.b4,Lw.cM,Lw.aw,Lw.bI,Lw.cH,Lw.bP,Lw.bp,Lw.aE,Lw.bK,Lw.ax,Lw.am,Lw.cI,Lw.dm,Lw.eA,Lw.eB,Lw.ee,Lw.eD,Lw.dq,Lw.dr,Lw.df,Lw.cr,Lw.cN,Lw.cP,List.getElem?_cons_zero,List.getElem?_cons_succ,List.set_cons_zero,List.set_cons_succ,List.replicate,List.cons_append,List.nil_append,reduceCtorEq,false_or,or_false,or_self,if_false,if_true,ite_true,ite_false,Nat.reduceAdd,Nat.reduceSub,Nat.reduceLeDiff,Nat.zero_add,Bool.and_true,Bool.true_and,Bool.not_true,Bool.not_false,decide_true,decide_false,E1,hz,eE,cU,Parts.d]
 have htest:ft2 dGt (f2 cX (au 2 (az a) (ac (aa 0) (ac (fC (.int 7)) af))) (fC (.int 3))) (fC (.int 0)) (E1 ns most walkers shut C R (cell ns 3) (.lst .f (aj .f (bq (cell ns 2) shut C (R + 1)))) (.lst .f (aj .f (bG (cell ns 3) shut (C + 1) R))) M (some (.lst .f ((L1).map D.int))) (some (.lst .f ((L2).map D.int))))=.ok (decide (0 < cell ns 7 % 3)):=by
  have hc7:(au 2 (az a) (ac (aa 0) (ac (fC (.int 7)) af))) (E1 ns most walkers shut C R (cell ns 3) (.lst .f (aj .f (bq (cell ns 2) shut C (R + 1)))) (.lst .f (aj .f (bG (cell ns 3) shut (C + 1) R))) M (some (.lst .f ((L1).map D.int))) (some (.lst .f ((L2).map D.int))))=.ok (.int (cell ns 7)):=gi a ns 7 rfl
  have hx:f2 dGt (f2 cX (au 2 (az a) (ac (aa 0) (ac (fC (.int 7)) af))) (fC (.int 3))) (fC (.int 0)) (E1 ns most walkers shut C R (cell ns 3) (.lst .f (aj .f (bq (cell ns 2) shut C (R + 1)))) (.lst .f (aj .f (bG (cell ns 3) shut (C + 1) R))) M (some (.lst .f ((L1).map D.int))) (some (.lst .f ((L2).map D.int))))=.ok (.bl (decide (0 < cell ns 7 % 3))):=
   (iQ (g:=dGt) (y:=.int 0) ((iQ (g:=cX) (y:=.int 3) hc7 rfl).trans (gT _ _ (by decide))) rfl).trans (ee _ _)
  unfold ft2
  rw [hx,bok,cr]
 have hgood:∀ S T:List Int,Rising ((R + 1:Nat):Int) M S->Rising ((R + 1:Nat):Int) M T->Good most walkers ⟨C + 1,R + 1,bq (cell ns 2) shut C (R + 1),bG (cell ns 3) shut (C + 1) R,S,T⟩:=fun S T q1 q2=>by
  have g1:=vO (cell ns 2) shut C (R + 1) hs
  have g2:=vP (cell ns 3) shut (C + 1) R hs
  exact ⟨⟨by show 1 <= C + 1;lia,by show C + 1 <= most;lia⟩,⟨by show 1 <= R + 1;lia,by show R + 1 <= most;lia⟩,g1.1,fun r hr=>⟨by rw [(g1.2 r hr).1],(g1.2 r hr).2⟩,by rw [g2.1],fun r hr=>g2.2 r hr,M,hM2,hM3.2,q1,q2⟩
 have go:∀ S T:List Int,gIf (ft2 dGt (f2 cX (au 2 (az a) (ac (aa 0) (ac (fC (.int 7)) af))) (fC (.int 3))) (fC (.int 0))) (ao (aq 10 (fFz (eO (ac (aa 9) af)))) (aq 11 (fFz (aL 1 [5,9] (bW (ac (aa 9) af)) (av 0) a8 (f2 aP (f2 dR (aa 1) (aa 2)) (aa 0)))))) aC (E1 ns most walkers shut C R (cell ns 3) (.lst .f (aj .f (bq (cell ns 2) shut C (R + 1)))) (.lst .f (aj .f (bG (cell ns 3) shut (C + 1) R))) M (some (.lst .f ((L1).map D.int))) (some (.lst .f ((L2).map D.int))))=.nx (E1 ns most walkers shut C R (cell ns 3) (.lst .f (aj .f (bq (cell ns 2) shut C (R + 1)))) (.lst .f (aj .f (bG (cell ns 3) shut (C + 1) R))) M (some (.lst .f ((S).map D.int))) (some (.lst .f ((T).map D.int)))) →
     de a [.scr ns,.int most,.int walkers,.int shut]=.ok (Parts.d ⟨C + 1,R + 1,bq (cell ns 2) shut C (R + 1),bG (cell ns 3) shut (C + 1) R,S,T⟩):=fun S T hif=>by
  refine nL ?_
  show gv a (E0 ns most walkers shut none none none none none none)=_
  unfold gv
  rw [bi h4,bi h5,bi h6,bi h7,bi h6b,bi h8,bi h9,bi h10,bi h11,bi hif]
  exact hret S T
 by_cases ht:0 < cell ns 7 % 3
 ·have k10:aq 10 (fFz (eO (ac (aa 9) af))) (E1 ns most walkers shut C R (cell ns 3) (.lst .f (aj .f (bq (cell ns 2) shut C (R + 1)))) (.lst .f (aj .f (bG (cell ns 3) shut (C + 1) R))) M (some (.lst .f ((L1).map D.int))) (some (.lst .f ((L2).map D.int))))=.nx (E1 ns most walkers shut C R (cell ns 3) (.lst .f (aj .f (bq (cell ns 2) shut C (R + 1)))) (.lst .f (aj .f (bG (cell ns 3) shut (C + 1) R))) M (some (.lst .f (((List.range M).map fun (i:Nat)=>(0 + (i:Int))).map D.int))) (some (.lst .f ((L2).map D.int)))):=by
     have:=ga (i:=10) (ρ:=(E1 ns most walkers shut C R (cell ns 3) (.lst .f (aj .f (bq (cell ns 2) shut C (R + 1)))) (.lst .f (aj .f (bG (cell ns 3) shut (C + 1) R))) M (some (.lst .f ((L1).map D.int))) (some (.lst .f ((L2).map D.int))))) (oB (n:=M) (fa:=ac (aa 9) af) rfl (by lia)) (ntb rfl) (by show 10 < 12;decide)
     rw [oC,aE,cU] at this
     exact this
  have k11:aq 11 (fFz (aL 1 [5,9] (bW (ac (aa 9) af)) (av 0) a8 (f2 aP (f2 dR (aa 1) (aa 2)) (aa 0)))) (E1 ns most walkers shut C R (cell ns 3) (.lst .f (aj .f (bq (cell ns 2) shut C (R + 1)))) (.lst .f (aj .f (bG (cell ns 3) shut (C + 1) R))) M (some (.lst .f (((List.range M).map fun (i:Nat)=>(0 + (i:Int))).map D.int))) (some (.lst .f ((L2).map D.int))))=.nx (E1 ns most walkers shut C R (cell ns 3) (.lst .f (aj .f (bq (cell ns 2) shut C (R + 1)))) (.lst .f (aj .f (bG (cell ns 3) shut (C + 1) R))) M (some (.lst .f (((List.range M).map fun (i:Nat)=>(0 + (i:Int))).map D.int))) (some (.lst .f (((List.range M).map fun (i:Nat)=>(((R + 1:Nat):Int) - (M:Int) + (i:Int))).map D.int)))):=by
   have e:=i9 (cap:=[5,9]) (fi:=bW (ac (aa 9) af)) (fe:=f2 aP (f2 dR (aa 1) (aa 2)) (aa 0)) (ρ:=(E1 ns most walkers shut C R (cell ns 3) (.lst .f (aj .f (bq (cell ns 2) shut C (R + 1)))) (.lst .f (aj .f (bG (cell ns 3) shut (C + 1) R))) M (some (.lst .f (((List.range M).map fun (i:Nat)=>(0 + (i:Int))).map D.int))) (some (.lst .f ((L2).map D.int))))) (items:=a7 0 M) ((onI fun (x:Int)=>D.int (((R + 1:Nat):Int) - (M:Int) + x))) (eh rfl (by lia)) (fun d hd=>by
    obtain ⟨x,hx,rfl⟩:=hX hd
    exact ⟨rfl,ntb rfl⟩) (by simp [a7];lia)
   have:=ga (i:=11) e (ntb rfl) (by show 11 < 12;decide)
   rw [aE] at this
   have hm2:((a7 0 M).map (onI fun (x:Int)=>D.int (((R + 1:Nat):Int) - (M:Int) + x)))=((List.range M).map fun (i:Nat)=>(((R + 1:Nat):Int) - (M:Int) + (i:Int))).map D.int:=nN M fun x=>((R + 1:Nat):Int) - (M:Int) + x
   have hm3:=congrArg (fun l=>D.fzs l) hm2
   refine this.trans ?_
   refine (congrArg (fun l=>FOut.nx (List.set (E1 ns most walkers shut C R (cell ns 3) (.lst .f (aj .f (bq (cell ns 2) shut C (R + 1)))) (.lst .f (aj .f (bG (cell ns 3) shut (C + 1) R))) M (some (.lst .f (((List.range M).map fun (i:Nat)=>(0 + (i:Int))).map D.int))) (some (.lst .f ((L2).map D.int)))) 11 (some (.lst .f l)))) (hm3.trans (cU _))).trans rfl
  refine ⟨_,hgood _ _ (pX (R + 1) M (by lia)) (su (R + 1) M (by lia)),_,go _ _ ?_,rfl⟩
  unfold gIf
  rw [htest,aok,decide_eq_true ht,if_pos rfl,bi k10]
  exact k11
 ·refine ⟨_,hgood _ _ r1 r2,_,go _ _ ?_,rfl⟩
  unfold gIf
  rw [htest,aok,decide_eq_false ht,if_neg (by decide)]
  rfl
theorem iR {p p':Int->Int->Bool} {fa fb fc:ae->Res D} {ρ:ae} {i j k:Int} (h1:fa ρ=.ok (.int i)) (h2:fb ρ=.ok (.int j)) (h3:fc ρ=.ok (.int k)):bX p p' fa fb fc ρ=.ok (.bl (p i j && p' j k)):=by
 unfold bX
 rw [h1,bok,h2,bok]
 show (if p i j=true then fc ρ >>= _ else _)=_
 by_cases h:p i j=true
 ·rw [if_pos h,h3,bok,h,Bool.true_and]
 ·rw [if_neg h]
  have:p i j=false:=by simpa using h
  rw [this,Bool.false_and]
theorem lj {f:ae->Res D} {g:ae->FOut} {ρ:ae} (h:f ρ=.ok (.bl true)):gIf (bh (ftB f)) g aC ρ=.nx ρ:=by
 unfold gIf bh ftB
 rw [h,bok,cr,bok,aok]
 rfl
theorem lm {fa fb:ae->Res D} {g:ae->FOut} {ρ:ae} {i:Int} (h1:fa ρ=.ok (.int i)) (h2:fb ρ=.ok (.int i)):gIf (ft2 (eR true) fa fb) g aC ρ=.nx ρ:=by
 unfold gIf ft2
 rw [iQ h1 h2,df,bok,cr,aok]
 simp [aC]
theorem nO {N:Nat} {g:ae->FOut} {ds:List D} {r:ae} (h:g (ds.map some ++ List.replicate (N - ds.length) none)=.nx r):aN N g ds=.ok .non:=by unfold aN;rw [h]
theorem mV (a:Ads) (n:Int) (h1:1 <= n) (h2:n <= 8):dB a [.int n]=.ok .non:=by
 refine nO (r:=[some (.int n)]) ?_
 show iL a [some (.int n)]=_
 unfold iL
 refine lj ?_
 rw [iR (i:=1) (j:=n) (k:=8) rfl rfl rfl,decide_eq_true h1,decide_eq_true h2]
 rfl
theorem fw {j:Nat} {ρ:ae} {t:Tg} {xs:List D} (h:ρ[j]?=some (some (.lst t xs))) (ht:t=.f):fCB aR (ac (aa j) af) ρ=.ok (.int xs.length):=by
 subst ht
 unfold fCB
 rw [ce (b5 j ρ _ h) rfl,bok]
 rfl
theorem kI (g:List (List Int)):(aj .f g).map D.asF=aj .f g:=by
 unfold aj
 rw [List.map_map]
 exact List.map_congr_left fun r _=>rfl
theorem c0 (L:List Int):(L.map D.int).map D.asF=L.map D.int:=by
 rw [List.map_map]
 exact List.map_congr_left fun r _=>rfl
theorem pY {j:Nat} {ρ:ae} {g:List (List Int)} (h:ρ[j]?=some (some (.lst .f (aj .f g)))):aJ (aa j) ρ=.ok (aj .f g):=by
 unfold aJ
 rw [b5 j ρ _ h,bok]
 show (if (Tg.f=Tg.b) then Res.bad else bE (some ((aj .f g).map D.asF)))=_
 rw [if_neg (by decide),kI]
 rfl
theorem pZ {j:Nat} {ρ:ae} {L:List Int} (h:ρ[j]?=some (some (.lst .f (L.map D.int)))):aJ (aa j) ρ=.ok (L.map D.int):=by
 unfold aJ
 rw [b5 j ρ _ h,bok]
 show (if (Tg.f=Tg.b) then Res.bad else bE (some ((L.map D.int).map D.asF)))=_
 rw [if_neg (by decide),c0]
 rfl
noncomputable def inW:D->D
 | .int v=>.bl (decide (0 <= v) && decide (v <= 1000))
 | d=>d
theorem rg (f:Int->Bool):∀ r:List Int,gp (r.map fun v=>D.bl (f v))=some (r.map f)
 | []=>rfl
 | v::r=>by
  show (gp (r.map fun v=>D.bl (f v))).map (f v::·)=_
  rw [rg f r]
  rfl
theorem zf (r:List Int) (h:∀ v ∈ r,0 <= v/\v <= 1000):jc [.lst .o ((r.map D.int).map inW)]=.ok (.bl true):=by
 have e:(r.map D.int).map inW=r.map fun v=>D.bl (decide (0 <= v) && decide (v <= 1000)):=by
  rw [List.map_map]
  exact List.map_congr_left fun v _=>rfl
 rw [e]
 unfold jc
 simp only [rg]
 congr 2
 rw [List.all_eq_true]
 intro b hb
 obtain ⟨v,hv,rfl⟩:=List.mem_map.mp hb
 have:=h v hv
 simp [this.1,this.2]
noncomputable abbrev gbS (a:Ads):ae->FOut:=(ao (gIf (ft2 (eR true) (fCB aR (ac (aa 3) af)) (aa 2)) (fun _=>.exc (.ref a.BadNet)) aC)
 (gIf (bh (ftB (fCB jc (ac (aL 1 [] (aJ (aa 3)) (av 0) a8 (bX (fun i j=>decide (i <= j)) (fun i j=>decide (i <= j)) (fC (.int 0)) (aa 0) (fC (.int 1000)))) af)))) (fun _=>.exc (.ref a.BadNet)) aC))
theorem sv (a:Ads) (v0 v1:Option D) (r:List Int) (hr:∀ v ∈ r,0 <= v/\v <= 1000) (hl:r.length <= 1000):gbS a [v0,v1,some (.int r.length),some (.lst .f (r.map D.int))]=.nx [v0,v1,some (.int r.length),some (.lst .f (r.map D.int))]:=by
 have hlen:=fw (j:=3) (ρ:=[v0,v1,some (.int r.length),some (.lst .f (r.map D.int))]) rfl rfl
 rw [List.length_map] at hlen
 refine (bi (lm hlen rfl)).trans (lj ?_)
 have hc:=i9 (cap:=[]) (fi:=aJ (aa 3)) (fe:=bX (fun i j=>decide (i <= j)) (fun i j=>decide (i <= j)) (fC (.int 0)) (aa 0) (fC (.int 1000))) (ρ:=[v0,v1,some (.int r.length),some (.lst .f (r.map D.int))]) (items:=r.map D.int) inW (pZ rfl) (fun x hx=>by
  obtain ⟨v,_,rfl⟩:=List.mem_map.mp hx
  exact ⟨iR (i:=0) (j:=v) (k:=1000) rfl rfl rfl,ntb rfl⟩) (by rw [List.length_map];exact hl)
 unfold fCB
 rw [ce hc rfl,bok]
 exact zf r hr
theorem mW (a:Ads) (v0 v1:Option D) (len:Nat) (hl:len <= 1000):∀ (g:List (List Int)) (e:Option D),(∀ r ∈ g,r.length=len/\∀ v ∈ r,0 <= v/\v <= 1000)->∃ e',bv (av 3) (gbS a) (aj .f g) [v0,v1,some (.int len),e]=.nx [v0,v1,some (.int len),e']
 | [],e,_=>⟨e,rfl⟩
 | r::g,e,h=>by
  obtain ⟨h1,h2⟩:=h r List.mem_cons_self
  obtain ⟨e',k⟩:=mW a v0 v1 len hl g (some (.lst .f (r.map D.int))) fun q hq=>h q (List.mem_cons_of_mem _ hq)
  refine ⟨e',?_⟩
  have st:=sv a v0 v1 r h2 (by lia)
  rw [h1] at st
  exact cm (xs:=aj .f g) rfl st k
theorem bu {fi:ae->Res (List D)} {gt:D->ae->Res ae} {gb:ae->FOut} {ρ:ae} {items:List D} {o:FOut} (h1:fi ρ=.ok items) (h2:bv gt gb items ρ=o):bH fi gt gb ρ=o:=by unfold bH;rw [h1,aok,h2]
theorem lM (a:Ads) (g:List (List Int)) (len:Nat) (hl:len <= 1000) (h:∀ r ∈ g,r.length=len/\∀ v ∈ r,0 <= v/\v <= 1000):dh a [.lst .f (aj .f g),.int g.length,.int len]=.ok .non:=by
 obtain ⟨e',k⟩:=mW a (some (.lst .f (aj .f g))) (some (.int g.length)) len hl g none h
 refine nO (r:=[some (.lst .f (aj .f g)),some (.int g.length),some (.int len),e']) ?_
 show ie a [some (.lst .f (aj .f g)),some (.int g.length),some (.int len),none]=_
 unfold ie
 have hlen:=fw (j:=0) (ρ:=[some (.lst .f (aj .f g)),some (.int g.length),some (.int len),none]) rfl rfl
 have:(aj .f g).length=g.length:=by simp [aj]
 rw [this] at hlen
 exact (bi (lm hlen rfl)).trans (bu (pY rfl) k)
noncomputable abbrev gbB (a:Ads):ae->FOut:=(ao (gIf (bh (ftB (bX (fun i j=>decide (i < j)) (fun i j=>decide (i < j)) (aa 2) (aa 3) (aa 1)))) (fun _=>.exc (.ref a.BadNet)) aC)
 (aq 2 (fFz (aa 3))))
theorem lN (a:Ads) (v0:Option D) (rows:Int):∀ (L:List Int) (last:Int) (e:Option D),L.Pairwise (· < ·)->(∀ x ∈ L,last < x/\x < rows)->∃ l' e',bv (av 3) (gbB a) (L.map D.int) [v0,some (.int rows),some (.int last),e]=.nx [v0,some (.int rows),some (.int l'),e']
 | [],last,e,_,_=>⟨last,e,rfl⟩
 | x::L,last,e,hp,h=>by
  obtain ⟨h1,h2⟩:=h x List.mem_cons_self
  obtain ⟨q1,q2⟩:=List.pairwise_cons.mp hp
  obtain ⟨l',e',k⟩:=lN a v0 rows L x (some (.int x)) q2 fun y hy=>⟨q1 y hy,(h y (List.mem_cons_of_mem _ hy)).2⟩
  refine ⟨l',e',?_⟩
  have st:gbB a [v0,some (.int rows),some (.int last),some (.int x)]=.nx [v0,some (.int rows),some (.int x),some (.int x)]:=by
   refine (bi (lj ?_)).trans ?_
   ·rw [iR (i:=last) (j:=x) (k:=rows) rfl rfl rfl,decide_eq_true h1,decide_eq_true h2]
    rfl
   ·have:=ga (i:=2) (f:=aa 3) (ρ:=[v0,some (.int rows),some (.int last),some (.int x)]) (d:=.int x) rfl (ntb rfl) (by show 2 < 4;decide)
    rw [aw] at this
    exact this
  exact cm (xs:=L.map D.int) rfl st k
theorem kJ (a:Ads) (L:List Int) (rows:Int) (m:Nat) (h1:1 <= m) (h2:m <= 4) (r:Rising rows m L):cT a [.lst .f (L.map D.int),.int rows]=.ok .non:=by
 obtain ⟨l',e',k⟩:=lN a (some (.lst .f (L.map D.int))) rows L (-1) none r.asc fun x hx=>by have:=r.inn x hx;lia
 refine nO (r:=[some (.lst .f (L.map D.int)),some (.int rows),some (.int l'),e']) ?_
 show gG a [some (.lst .f (L.map D.int)),some (.int rows),none,none]=_
 unfold gG
 have hlen:=fw (j:=0) (ρ:=[some (.lst .f (L.map D.int)),some (.int rows),none,none]) rfl rfl
 rw [List.length_map,r.len] at hlen
 refine (bi (lj ?_)).trans ((bi (r':=[some (.lst .f (L.map D.int)),some (.int rows),some (.int (-1)),none]) ?_).trans (bu (pZ rfl) k))
 ·rw [iR (i:=1) (j:=m) (k:=4) rfl hlen rfl,decide_eq_true (show (1:Int) <= m by lia),decide_eq_true (show (m:Int) <= 4 by lia)]
  rfl
 ·have:=ga (i:=2) (f:=f1 jG (fC (.int 1))) (ρ:=[some (.lst .f (L.map D.int)),some (.int rows),none,none]) (d:=.int (-1)) rfl (ntb rfl) (by show 2 < 4;decide)
  rw [aw] at this
  exact this
theorem iB {f:ae->Res D} {ρ:ae} {d:D} (h:f ρ=.ok d):ej f ρ=.nx ρ:=by unfold ej;rw [h,aok]
theorem jr {C p:Addr} {fld:Str} {fv:ae->Res D} {ρ:ae} {fs:List (Str × D)} {d:D} (h:ρ[0]?=some (some (.slf p C fs))) (hv:fv ρ=.ok d) (hb:d.tag ≠ .b) (hl:fs.length < 1000):fJ 0 C fld fv ρ=.nx (ρ.set 0 (some (.slf p C (jK fld d.fz fs)))):=by
 unfold fJ
 rw [h]
 simp only [hv,aok]
 rw [if_neg (fun z=>z.elim (fun z=>z rfl) fun z=>z.elim hb fun z=>absurd z (by lia))]
noncomputable def cpL:D->D
 | .lst _ xs=>.lst .o (xs.map D.asF)
 | d=>d
theorem oG {j:Nat} {ρ:ae} {g:List (List Int)} (h:ρ[j]?=some (some (.lst .f (aj .f g)))) (hl:g.length <= 1000):aL 1 [] (aJ (aa j)) (av 0) a8 (fCB bz (ac (aa 0) af)) ρ=.ok (.lst .o (aj .o g)):=by
 have e:=i9 (cap:=[]) (fi:=aJ (aa j)) (fe:=fCB bz (ac (aa 0) af)) (ρ:=ρ) (items:=aj .f g) cpL (pY h) (fun x hx=>by
  obtain ⟨r,_,rfl⟩:=List.mem_map.mp hx
  exact ⟨rfl,ntb rfl⟩) (by simp [aj];exact hl)
 rw [e]
 congr 2
 unfold aj
 rw [List.map_map]
 refine List.map_congr_left fun r _=>?_
 show D.lst .o ((r.map D.int).map D.asF)=_
 rw [c0]
theorem oH {j:Nat} {ρ:ae} {L:List Int} (h:ρ[j]?=some (some (.lst .f (L.map D.int)))):fCB bz (ac (aa j) af) ρ=.ok (.lst .o (L.map D.int)):=by
 unfold fCB
 rw [ce (b5 j ρ _ h) rfl,bok]
 show Res.ok (D.lst .o ((L.map D.int).map D.asF))=_
 rw [c0]
noncomputable def p8 (p:Parts):List (Str × D):=[("right", .lst .f (aj .f p.right)),("up", .lst .f (aj .f p.up)),("starts", .lst .f (p.starts.map D.int)),("ends", .lst .f (p.ends.map D.int)),("columns", .int p.cols),("rows", .int p.rows)]
noncomputable def EN (x C:Addr) (p:Parts) (fs:List (Str × D)) (r c:Option D):ae:=[some (.slf x C fs),some (.lst .f (aj .f p.right)),some (.lst .f (aj .f p.up)),some (.lst .f (p.starts.map D.int)),some (.lst .f (p.ends.map D.int)),r,c]
theorem zg (a:Ads) (x:Addr) (p:Parts) (most walkers:Nat) (h8:most <= 8) (h4:walkers <= 4) (G:Good most walkers p):mG a x [.lst .f (aj .f p.right),.lst .f (aj .f p.up),.lst .f (p.starts.map D.int),.lst .f (p.ends.map D.int)]=.ok (p8 p):=by
 obtain ⟨m,m1,m2,rs,re⟩:=G.many
 have hrl:(aj .f p.right).length=p.rows:=by simp [aj,G.rl]
 obtain ⟨r0,rest,hr0⟩:∃ r0 rest,p.right=r0::rest:=by
  cases e:p.right with
  | nil=>have:=G.rl;have:=G.r1;rw [e] at *;simp at *;lia
  | cons r0 rest=>exact ⟨r0,rest,rfl⟩
 have hc0:r0.length + 1=p.cols:=(G.rr r0 (by rw [hr0];exact List.mem_cons_self)).1
 have l1:∀ fs r c,fCB aR (ac (aa 1) af) (EN x a.Net p fs r c)=.ok (.int p.rows):=fun fs r c=>by
  have:=fw (j:=1) (ρ:=EN x a.Net p fs r c) rfl rfl
  rw [hrl] at this;exact this
 have s1:∀ fs r c,ej (au 1 (dB a) (ac (fCB aR (ac (aa 1) af)) af)) (EN x a.Net p fs r c)=.nx (EN x a.Net p fs r c):=fun fs r c =>
  iB (cC (d:=.non) (ds:=[.int p.rows]) (ce (l1 fs r c) rfl) rfl (by rw [am,ax,aw];exact mV a _ (by have:=G.r1;lia) (by have:=G.r1;lia)) rfl)
 have s2:aq 5 (fFz (fCB aR (ac (aa 1) af))) (EN x a.Net p [] none none)=.nx (EN x a.Net p [] (some (.int p.rows)) none):=by
  have:=ga (i:=5) (l1 [] none none) (ntb rfl) (by show 5 < 7;decide)
  rw [aw] at this
  exact this
 have s3:aq 6 (fFz (f2 aP (fCB aR (ac (f2 dIx (aa 1) (fC (.int 0))) af)) (fC (.int 1)))) (EN x a.Net p [] (some (.int p.rows)) none)=.nx (EN x a.Net p [] (some (.int p.rows)) (some (.int p.cols))):=by
  have ix:f2 dIx (aa 1) (fC (.int 0)) (EN x a.Net p [] (some (.int p.rows)) none)=.ok (.lst .f (r0.map D.int)):=by
   refine (iQ (g:=dIx) (x:=.lst .f (aj .f p.right)) (y:=.int 0) rfl rfl).trans ?_
   rw [hr0]
   show (match L2.ixN ((aj .f (r0::rest)).length) 0 with
    | some j=>bE (D.el (.lst .f (aj .f (r0::rest))) j)
    | none=>Res.bad)=_
   have:L2.ixN ((aj .f (r0::rest)).length) 0=some 0:=by unfold L2.ixN;rw [if_pos (by lia),if_pos (by show (0:Int) < ((aj .f (r0::rest)).length:Int);rw [show (aj .f (r0::rest)).length=rest.length + 1 by simp [aj]];lia)];try rfl
   rw [this]
   rfl
  have ln:fCB aR (ac (f2 dIx (aa 1) (fC (.int 0))) af) (EN x a.Net p [] (some (.int p.rows)) none)=.ok (.int r0.length):=by
   unfold fCB
   rw [ce ix rfl,bok]
   show Res.ok (D.int ((r0.map D.int).length:Nat))=_
   rw [List.length_map]
  have:=ga (i:=6) ((iQ (g:=aP) (f2':=fC (.int 1)) (y:=.int 1) ln rfl).trans (cI _ _)) (ntb rfl) (by show 6 < 7;decide)
  rw [aw,show ((r0.length:Int) + 1)=(p.cols:Int) by lia] at this
  exact this
 have s4:ej (au 1 (dB a) (ac (aa 6) af)) (EN x a.Net p [] (some (.int p.rows)) (some (.int p.cols)))=.nx (EN x a.Net p [] (some (.int p.rows)) (some (.int p.cols))):=
  iB (cC (d:=.non) (ds:=[.int p.cols]) rfl rfl (by rw [am,ax,aw];exact mV a _ (by have:=G.c1;lia) (by have:=G.c1;lia)) rfl)
 have s5:ej (au 3 (dh a) (ac (aa 1) (ac (aa 5) (ac (f2 dR (aa 6) (fC (.int 1))) af)))) (EN x a.Net p [] (some (.int p.rows)) (some (.int p.cols)))=.nx (EN x a.Net p [] (some (.int p.rows)) (some (.int p.cols))):=by
  refine iB (cC (d:=.non) (ds:=[.lst .f (aj .f p.right),.int p.rows,.int ((p.cols:Int) - 1)]) rfl rfl ?_ rfl)
  rw [am,am,am,ax,aE,eE,aw,aw,<- G.rl,show (p.cols:Int) - 1=((p.cols - 1:Nat):Int) by have:=G.c1;lia]
  exact lM a p.right _ (by have:=G.c1;lia) fun r hr=>⟨by have:=(G.rr r hr).1;lia,(G.rr r hr).2⟩
 have s6:ej (au 3 (dh a) (ac (aa 2) (ac (f2 dR (aa 5) (fC (.int 1))) (ac (aa 6) af)))) (EN x a.Net p [] (some (.int p.rows)) (some (.int p.cols)))=.nx (EN x a.Net p [] (some (.int p.rows)) (some (.int p.cols))):=by
  refine iB (cC (d:=.non) (ds:=[.lst .f (aj .f p.up),.int ((p.rows:Int) - 1),.int p.cols]) rfl rfl ?_ rfl)
  rw [am,am,am,ax,aE,eE,aw,aw,show (p.rows:Int) - 1=((p.up.length:Nat):Int) by have:=G.ul;lia]
  exact lM a p.up _ (by have:=G.c1;lia) fun r hr=>G.ur r hr
 have s7:ej (au 2 (cT a) (ac (aa 3) (ac (aa 5) af))) (EN x a.Net p [] (some (.int p.rows)) (some (.int p.cols)))=.nx (EN x a.Net p [] (some (.int p.rows)) (some (.int p.cols))):=by
  refine iB (cC (d:=.non) (ds:=[.lst .f (p.starts.map D.int),.int p.rows]) rfl rfl ?_ rfl)
  rw [am,am,ax,aE,cU,aw]
  exact kJ a p.starts _ m m1 (by lia) rs
 have s8:ej (au 2 (cT a) (ac (aa 4) (ac (aa 5) af))) (EN x a.Net p [] (some (.int p.rows)) (some (.int p.cols)))=.nx (EN x a.Net p [] (some (.int p.rows)) (some (.int p.cols))):=by
  refine iB (cC (d:=.non) (ds:=[.lst .f (p.ends.map D.int),.int p.rows]) rfl rfl ?_ rfl)
  rw [am,am,ax,aE,cU,aw]
  exact kJ a p.ends _ m m1 (by lia) re
 have s9:gIf (ft2 (eR true) (fCB aR (ac (aa 3) af)) (fCB aR (ac (aa 4) af))) (fun _=>.exc (.ref a.BadNet)) aC (EN x a.Net p [] (some (.int p.rows)) (some (.int p.cols)))=.nx (EN x a.Net p [] (some (.int p.rows)) (some (.int p.cols))):=by
  have e3:=fw (j:=3) (ρ:=(EN x a.Net p [] (some (.int p.rows)) (some (.int p.cols)))) rfl rfl
  have e4:=fw (j:=4) (ρ:=(EN x a.Net p [] (some (.int p.rows)) (some (.int p.cols)))) rfl rfl
  rw [List.length_map,rs.len] at e3
  rw [List.length_map,re.len] at e4
  exact lm e3 e4
 have t1:fJ 0 a.Net "right" (aL 1 [] (aJ (aa 1)) (av 0) a8 (fCB bz (ac (aa 0) af))) (EN x a.Net p [] (some (.int p.rows)) (some (.int p.cols)))=.nx (EN x a.Net p [("right", .lst .f (aj .f p.right))] (some (.int p.rows)) (some (.int p.cols))):=by
  have:=jr (C:=a.Net) (p:=x) (fld := "right") (fs:=[]) (ρ:=(EN x a.Net p [] (some (.int p.rows)) (some (.int p.cols)))) rfl (oG (j:=1) (g:=p.right) rfl (by have:=G.rl;have:=G.r1;lia)) (ntb rfl) (by decide)
  rw [aE,eE] at this
  exact this
 have t2:fJ 0 a.Net "up" (aL 1 [] (aJ (aa 2)) (av 0) a8 (fCB bz (ac (aa 0) af))) (EN x a.Net p [("right", .lst .f (aj .f p.right))] (some (.int p.rows)) (some (.int p.cols)))=.nx (EN x a.Net p [("right", .lst .f (aj .f p.right)),("up", .lst .f (aj .f p.up))] (some (.int p.rows)) (some (.int p.cols))):=by
  have:=jr (C:=a.Net) (p:=x) (fld := "up") (fs:=[("right", .lst .f (aj .f p.right))]) (ρ:=(EN x a.Net p [("right", .lst .f (aj .f p.right))] (some (.int p.rows)) (some (.int p.cols)))) rfl (oG (j:=2) (g:=p.up) rfl (by have:=G.ul;have:=G.r1;lia)) (ntb rfl) (by show 1 < 1000;decide)
  rw [aE,eE] at this
  exact this
 have t3:fJ 0 a.Net "starts" (fCB bz (ac (aa 3) af)) (EN x a.Net p [("right", .lst .f (aj .f p.right)),("up", .lst .f (aj .f p.up))] (some (.int p.rows)) (some (.int p.cols)))=.nx (EN x a.Net p [("right", .lst .f (aj .f p.right)),("up", .lst .f (aj .f p.up)),("starts", .lst .f (p.starts.map D.int))] (some (.int p.rows)) (some (.int p.cols))):=by
  have:=jr (C:=a.Net) (p:=x) (fld := "starts") (fs:=[("right", .lst .f (aj .f p.right)),("up", .lst .f (aj .f p.up))]) (ρ:=(EN x a.Net p [("right", .lst .f (aj .f p.right)),("up", .lst .f (aj .f p.up))] (some (.int p.rows)) (some (.int p.cols)))) rfl (oH (j:=3) (L:=p.starts) rfl) (ntb rfl) (by show 2 < 1000;decide)
  rw [aE,cU] at this
  exact this
 have t4:fJ 0 a.Net "ends" (fCB bz (ac (aa 4) af)) (EN x a.Net p [("right", .lst .f (aj .f p.right)),("up", .lst .f (aj .f p.up)),("starts", .lst .f (p.starts.map D.int))] (some (.int p.rows)) (some (.int p.cols)))=.nx (EN x a.Net p [("right", .lst .f (aj .f p.right)),("up", .lst .f (aj .f p.up)),("starts", .lst .f (p.starts.map D.int)),("ends", .lst .f (p.ends.map D.int))] (some (.int p.rows)) (some (.int p.cols))):=by
  have:=jr (C:=a.Net) (p:=x) (fld := "ends") (fs:=[("right", .lst .f (aj .f p.right)),("up", .lst .f (aj .f p.up)),("starts", .lst .f (p.starts.map D.int))]) (ρ:=(EN x a.Net p [("right", .lst .f (aj .f p.right)),("up", .lst .f (aj .f p.up)),("starts", .lst .f (p.starts.map D.int))] (some (.int p.rows)) (some (.int p.cols)))) rfl (oH (j:=4) (L:=p.ends) rfl) (ntb rfl) (by show 3 < 1000;decide)
  rw [aE,cU] at this
  exact this
 have t5:fJ 0 a.Net "columns" (aa 6) (EN x a.Net p [("right", .lst .f (aj .f p.right)),("up", .lst .f (aj .f p.up)),("starts", .lst .f (p.starts.map D.int)),("ends", .lst .f (p.ends.map D.int))] (some (.int p.rows)) (some (.int p.cols)))=.nx (EN x a.Net p [("right", .lst .f (aj .f p.right)),("up", .lst .f (aj .f p.up)),("starts", .lst .f (p.starts.map D.int)),("ends", .lst .f (p.ends.map D.int)),("columns", .int p.cols)] (some (.int p.rows)) (some (.int p.cols))):=by
  have:=jr (C:=a.Net) (p:=x) (fld := "columns") (fs:=[("right", .lst .f (aj .f p.right)),("up", .lst .f (aj .f p.up)),("starts", .lst .f (p.starts.map D.int)),("ends", .lst .f (p.ends.map D.int))]) (ρ:=(EN x a.Net p [("right", .lst .f (aj .f p.right)),("up", .lst .f (aj .f p.up)),("starts", .lst .f (p.starts.map D.int)),("ends", .lst .f (p.ends.map D.int))] (some (.int p.rows)) (some (.int p.cols)))) (fv:=aa 6) (d:=.int p.cols) rfl rfl (ntb rfl) (by show 4 < 1000;decide)
  rw [aw] at this
  exact this
 have t6:fJ 0 a.Net "rows" (aa 5) (EN x a.Net p [("right", .lst .f (aj .f p.right)),("up", .lst .f (aj .f p.up)),("starts", .lst .f (p.starts.map D.int)),("ends", .lst .f (p.ends.map D.int)),("columns", .int p.cols)] (some (.int p.rows)) (some (.int p.cols)))=.nx (EN x a.Net p (p8 p) (some (.int p.rows)) (some (.int p.cols))):=by
  have:=jr (C:=a.Net) (p:=x) (fld := "rows") (fs:=[("right", .lst .f (aj .f p.right)),("up", .lst .f (aj .f p.up)),("starts", .lst .f (p.starts.map D.int)),("ends", .lst .f (p.ends.map D.int)),("columns", .int p.cols)]) (ρ:=(EN x a.Net p [("right", .lst .f (aj .f p.right)),("up", .lst .f (aj .f p.up)),("starts", .lst .f (p.starts.map D.int)),("ends", .lst .f (p.ends.map D.int)),("columns", .int p.cols)] (some (.int p.rows)) (some (.int p.cols)))) (fv:=aa 5) (d:=.int p.rows) rfl rfl (ntb rfl) (by show 5 < 1000;decide)
  rw [aw] at this
  exact this
 have all:se a (EN x a.Net p [] none none)=.nx (EN x a.Net p (p8 p) (some (.int p.rows)) (some (.int p.cols))):=by
  unfold se
  rw [bi (s1 [] none none),bi s2,bi s3,bi s4,bi s5,bi s6,bi s7,bi s8,bi s9,bi t1,bi t2,bi t3,bi t4,bi t5]
  exact t6
 unfold mG dM
 rw [show (some (D.slf x a.Net [])::(List.map some [D.lst .f (aj .f p.right),D.lst .f (aj .f p.up),D.lst .f (p.starts.map D.int),D.lst .f (p.ends.map D.int)] ++ List.replicate (7 - ([D.lst .f (aj .f p.right),D.lst .f (aj .f p.up),D.lst .f (p.starts.map D.int),D.lst .f (p.ends.map D.int)].length + 1)) none))=(EN x a.Net p [] none none) from rfl,all]
 show (if x=x/\a.Net=a.Net then Res.ok (p8 p) else .bad)=_
 rw [if_pos ⟨rfl,rfl⟩]
theorem wz {i:Nat} {ρ:ae} {d d':D} (h:ρ[i]?=some (some d)) (hd:d.rd=d'):aa i ρ=.ok d':=by rw [b5 i ρ d h,hd]
theorem v_C {d:D} {ρ:ae}:fC d ρ=.ok d:=rfl
theorem jT {g:D->D->Res D} {fa fb:ae->Res D} {ρ:ae} {x y z:D} (h1:fa ρ=.ok x) (h2:fb ρ=.ok y) (h3:g x y=.ok z):f2 g fa fb ρ=.ok z:=by rw [iQ h1 h2,h3]
theorem zi {g:D->Res D} {fa:ae->Res D} {ρ:ae} {x z:D} (h1:fa ρ=.ok x) (h3:g x=.ok z):f1 g fa ρ=.ok z:=by unfold f1;rw [h1,bok,h3]
theorem sw {g:List D->Res D} {fa:ae->Res (List D)} {ρ:ae} {x:List D} {z:D} (h1:fa ρ=.ok x) (h3:g x=.ok z):fCB g fa ρ=.ok z:=by unfold fCB;rw [h1,bok,h3]
theorem gU {ρ:ae}:af ρ=.ok []:=rfl
theorem fG {n:Nat} (h:n <= 1000):n <= sizeLine:=Nat.le_trans h (by decide)
theorem wA {fa:ae->Res (List D)} {ρ:ae} {es es':List D} (h1:fa ρ=.ok es) (h2:nb es=true) (h3:es.length <= 1000) (h4:D.fzs es=es'):bj fa ρ=.ok (.tup es'):=by
 unfold bj;rw [h1,bok,if_pos (by rw [h2,decide_eq_true (fG h3)];rfl),h4]
theorem Cd {fa:ae->Res (List D)} {ρ:ae} {es:List D} (h1:fa ρ=.ok es) (h2:nb es=true) (h3:es.length <= 1000):bd fa ρ=.ok (.lst .o es):=by
 unfold bd;rw [h1,bok,if_pos (by rw [h2,decide_eq_true (fG h3)];rfl)]
theorem hZ {n:Nat} {F:List D->Res D} {fa:ae->Res (List D)} {ρ:ae} {ds ds':List D} {d:D} (h:fa ρ=.ok ds) (hn:ds.length=n) (hz:D.fzs ds=ds') (hF:F ds'=.ok d) (ha:(nb ds=true/\d.tag ≠ .b) \/ d.atom=true):au n F fa ρ=.ok d:=by
 unfold au
 rw [h,bok,if_pos hn]
 unfold fA
 rw [hz,hF]
 show (if _ then _ else _)=_
 rw [if_pos ha]
theorem iS {f:ae->Res D} {ρ:ae} {d d':D} (h:f ρ=.ok d) (hb:d.tag ≠ .b) (hz:d.fz=d'):fFz f ρ=.ok d':=by rw [wy h hb,hz]
theorem xA {p p':Int->Int->Bool} {fa fb fc:ae->Res D} {ρ:ae} {i j k:Int} (h1:fa ρ=.ok (.int i)) (h2:fb ρ=.ok (.int j)) (h3:fc ρ=.ok (.int k)):bX p p' fa fb fc ρ=.ok (.bl (p i j && p' j k)):=iR h1 h2 h3
theorem sA {s t:ae->Res D} {ρ:ae} {b c:Bool} (h1:s ρ=.ok (.bl b)) (h2:t ρ=.ok (.bl c)):iH s t ρ=.ok (.bl (b && c)):=by
 unfold iH;rw [h1,bok,cr,bok];cases b <;> simp [h2]
theorem t_2 {g:D->D->Res D} {fa fb:ae->Res D} {ρ:ae} {x y:D} {b:Bool} (h1:fa ρ=.ok x) (h2:fb ρ=.ok y) (h3:g x y=.ok (.bl b)):ft2 g fa fb ρ=.ok b:=by
 unfold ft2;rw [iQ h1 h2,h3,bok,cr]
theorem t_B {f:ae->Res D} {ρ:ae} {b:Bool} (h1:f ρ=.ok (.bl b)):ftB f ρ=.ok b:=by unfold ftB;rw [h1,bok,cr]
theorem sC {t:ae->Res Bool} {ρ:ae} {b:Bool} (h1:t ρ=.ok b):bh t ρ=.ok (!b):=by unfold bh;rw [h1,bok]
theorem sD {s t:ae->Res Bool} {ρ:ae} {b c:Bool} (h1:s ρ=.ok b) (h2:t ρ=.ok c):cW s t ρ=.ok (b && c):=by unfold cW;rw [h1,bok];cases b <;> simp [h2]
theorem vT {s t:ae->Res Bool} {ρ:ae} {b c:Bool} (h1:s ρ=.ok b) (h2:t ρ=.ok c):fV s t ρ=.ok (b || c):=by unfold fV;rw [h1,bok];cases b <;> simp [h2]
theorem Ce {s t:ae->Res Bool} {ρ:ae} (h1:s ρ=.ok true):fV s t ρ=.ok true:=by unfold fV;rw [h1,bok];rfl
theorem zj {t:ae->Res Bool} {f g:ae->Res D} {ρ:ae} {b:Bool} {d e:D} (h1:t ρ=.ok b) (h2:f ρ=.ok d) (h3:g ρ=.ok e):fIf t f g ρ=.ok (if b=true then d else e):=by
 unfold fIf;rw [h1,bok];cases b <;> simp [h2,h3]
theorem ix_tup {xs:List D} {k:Nat} {x x':D} (h:xs[k]?=some x) (hx:x.asF=x'):dIx (.tup xs) (.int (k:Int))=.ok x':=by
 have hk:k < xs.length:=(List.getElem?_eq_some_iff.mp h).1
 have e:L2.ixN xs.length (k:Int)=some k:=by unfold L2.ixN;rw [if_pos (by lia),if_pos (by lia)];simp
 show (match L2.ixN xs.length (k:Int) with
  | some j=>bE (D.el (.tup xs) j)
  | none=>Res.bad)=_
 rw [e]
 show bE (xs[k]?.map D.asF)=_
 rw [h,<- hx];rfl
theorem gy {xs:List D} {k:Nat} {x x':D} (h:xs[k]?=some x) (hx:x.asF=x'):dIx (.lst .f xs) (.int (k:Int))=.ok x':=by
 have hk:k < xs.length:=(List.getElem?_eq_some_iff.mp h).1
 have e:L2.ixN xs.length (k:Int)=some k:=by unfold L2.ixN;rw [if_pos (by lia),if_pos (by lia)];simp
 show (match L2.ixN xs.length (k:Int) with
  | some j=>bE (D.el (.lst .f xs) j)
  | none=>Res.bad)=_
 rw [e]
 show bE (xs[k]?.map D.asF)=_
 rw [h,<- hx];rfl
theorem ix0 {x x':D} {r:List D} (h:x.asF=x'):dIx (.tup (x::r)) (.int 0)=.ok x':=ix_tup (k:=0) rfl h
theorem ix1 {x x' y:D} {r:List D} (h:x.asF=x'):dIx (.tup (y::x::r)) (.int 1)=.ok x':=ix_tup (k:=1) rfl h
theorem ix2 {x x' y z:D} {r:List D} (h:x.asF=x'):dIx (.tup (y::z::x::r)) (.int 2)=.ok x':=ix_tup (k:=2) rfl h
theorem ix3 {x x' y z w:D} {r:List D} (h:x.asF=x'):dIx (.tup (y::z::w::x::r)) (.int 3)=.ok x':=ix_tup (k:=3) rfl h
theorem Dw:nb []=true:=rfl
theorem Dx {x:D} {xs:List D} (h:x.tag ≠ .b) (h2:nb xs=true):nb (x::xs)=true:=by
 unfold nb at *;rw [List.all_cons,h2];cases e:x.tag <;> simp_all
theorem mX (i:Int):(D.int i).asF=.int i:=rfl
theorem wB (i:Int):jG (.int i)=.ok (.int (-i)):=rfl
theorem zk (t:Tg) (xs:List D):aR [.lst t xs]=.ok (.int xs.length):=rfl
theorem fH {i:Nat} {f:ae->Res D} {ρ ρ':ae} {d:D} (h:f ρ=.ok d) (hb:d.tag ≠ .b) (hi:i < ρ.length) (he:ρ.set i (some d)=ρ'):aq i f ρ=.nx ρ':=by rw [uF h hb hi,he]
theorem iq {f:ae->Res D} {ρ:ae} {d:D} (h:f ρ=.ok d) (hb:d.tag ≠ .b):aK f ρ=.rt d:=by unfold aK;rw [h,aok,if_neg hb]
theorem zl {t:ae->Res Bool} {g1 g2:ae->FOut} {ρ:ae} {b:Bool} (h:t ρ=.ok b):gIf t g1 g2 ρ=if b=true then g1 ρ else g2 ρ:=by unfold gIf;rw [h,aok]
theorem cD {t:ae->Res Bool} {g1 g2:ae->FOut} {ρ:ae} {b:Bool} {o:FOut} (h:t ρ=.ok b) (hb:b=true) (h1:g1 ρ=o):gIf t g1 g2 ρ=o:=by rw [zl h,hb,if_pos rfl,h1]
theorem b6 {t:ae->Res Bool} {g1 g2:ae->FOut} {ρ:ae} {b:Bool} {o:FOut} (h:t ρ=.ok b) (hb:b=false) (h1:g2 ρ=o):gIf t g1 g2 ρ=o:=by rw [zl h,hb,if_neg (by decide),h1]
theorem aB {g1 g2:ae->FOut} {ρ ρ':ae} {o:FOut} (h:g1 ρ=.nx ρ') (h2:g2 ρ'=o):ao g1 g2 ρ=o:=by rw [bi h,h2]
theorem cQ {g1 g2:ae->FOut} {ρ:ae} {d:D} (h:g1 ρ=.rt d):ao g1 g2 ρ=.rt d:=by unfold ao;rw [h]
theorem p9 {g1 g2:ae->FOut} {ρ:ae} {C:Value} (h:g1 ρ=.exc C):ao g1 g2 ρ=.exc C:=by unfold ao;rw [h]
theorem dD {N:Nat} {g:ae->FOut} {ds:List D} {d:D} {ρ:ae} (hρ:ds.map some ++ List.replicate (N - ds.length) none=ρ) (h:g ρ=.rt d):aN N g ds=.ok d:=by subst hρ;exact nL h
theorem wC {N:Nat} {g:ae->FOut} {ds:List D} {C:Value} {ρ:ae} (hρ:ds.map some ++ List.replicate (N - ds.length) none=ρ) (h:g ρ=.exc C):aN N g ds=.exc C:=by subst hρ;unfold aN;rw [h]
theorem mY {i:Nat} {f:ae->Res D} {ρ ρ':ae} {xs:List D} {d:D} (h0:ρ[i]?=some (some (.lst .o xs))) (h:f ρ=.ok d) (hb:d.tag ≠ .b) (hl:xs.length < 1000) (he:ρ.set i (some (.lst .o (xs ++ [d])))=ρ'):c7 i f ρ=.nx ρ':=by
 have:¬ sizeLine <= xs.length:=by have:1000 < sizeLine:=(by decide);lia
 unfold c7;rw [h0];simp only [h,aok];rw [if_neg (fun z=>z.elim hb this),he]
theorem mZ {gt:D->ae->Res ae} {gb:ae->FOut} {x:D} {xs:List D} {ρ ρ1:ae} {d:D} (h1:gt x ρ=.ok ρ1) (h2:gb ρ1=.rt d):bv gt gb (x::xs) ρ=.rt d:=by
 show (match gt x ρ with
  | .ok ρ1=>match gb ρ1 with
   | .nx ρ2=>bv gt gb xs ρ2
   | .ct ρ2=>bv gt gb xs ρ2
   | .bk ρ2=>.nx ρ2
   | r=>r
  | _=>.bad)=_
 rw [h1];simp only [h2]
theorem xB {gt:D->ae->Res ae} {gb:ae->FOut} {x:D} {xs:List D} {ρ ρ1:ae} {C:Value} (h1:gt x ρ=.ok ρ1) (h2:gb ρ1=.exc C):bv gt gb (x::xs) ρ=.exc C:=by
 show (match gt x ρ with
  | .ok ρ1=>match gb ρ1 with
   | .nx ρ2=>bv gt gb xs ρ2
   | .ct ρ2=>bv gt gb xs ρ2
   | .bk ρ2=>.nx ρ2
   | r=>r
  | _=>.bad)=_
 rw [h1];simp only [h2]
theorem js {i:Nat} {d:D} {ρ ρ':ae} (hi:i < ρ.length) (he:ρ.set i (some d)=ρ'):av i d ρ=.ok ρ':=by unfold av;rw [if_neg (by lia),he]
theorem gL (t:Tg) (L:List Int):(D.lst t (L.map D.int)).fz=.lst .f (L.map D.int):=by rw [aE,cU]
theorem fx (t t':Tg) (g:List (List Int)):(D.lst t (aj t' g)).fz=.lst .f (aj .f g):=by rw [aE,eE]
theorem lq (p:Parts):p.d.fz=p.d:=by
 unfold Parts.d;rw [bp,am,am,am,am,ax,fx,fx,gL,gL]
theorem Cf (p:Parts):p.d.rd=p.d:=rfl
theorem pd0 (p:Parts):dIx p.d (.int 0)=.ok (.lst .f (aj .f p.right)):=ix0 rfl
theorem pd1 (p:Parts):dIx p.d (.int 1)=.ok (.lst .f (aj .f p.up)):=ix1 rfl
theorem pd2 (p:Parts):dIx p.d (.int 2)=.ok (.lst .f (p.starts.map D.int)):=ix2 rfl
theorem pd3 (p:Parts):dIx p.d (.int 3)=.ok (.lst .f (p.ends.map D.int)):=ix3 rfl
theorem bS {x y:D} {xs ys:List D} (h:x.fz=y) (h2:D.fzs xs=ys):D.fzs (x::xs)=y::ys:=by rw [am,h,h2]
end Lw
local macro_rules | `(tactic| sizeOf_list_dec)=>`(tactic| first
 | (((with_reducible apply Lw.wz);(exact rfl);(with_reducible first | exact Lw.cw _ | exact Lw.cx _ | exact Lw.dl _ | exact Lw.cy _ | exact Lw.cz _ | exact Lw.cA _ | exact Lw.cB _ | exact Lw.b4 _ _ | exact Lw.Cf _)))
 | (with_reducible exact Lw.v_C)
 | (with_reducible exact Lw.gU)
 | (with_reducible apply Lw.jT)
 | (with_reducible apply Lw.zi)
 | (with_reducible apply Lw.sw)
 | (with_reducible apply Lw.ce)
 | (with_reducible apply Lw.wA)
 | (with_reducible exact Lw.cI _ _)
 | (with_reducible exact Lw.dm _ _)
 | (with_reducible exact Lw.eA _ _)
 | (with_reducible exact Lw.ee _ _)
 | (with_reducible exact Lw.eB _ _)
 | (with_reducible exact Lw.eD _ _)
 | (with_reducible exact Lw.dq _ _)
 | (with_reducible exact Lw.dr _ _)
 | (with_reducible exact Lw.df _ _)
 | (with_reducible exact Lw.wB _)
 | (with_reducible exact Lw.zk _ _)
 | (with_reducible exact Lw.pd0 _)
 | (with_reducible exact Lw.pd1 _)
 | (with_reducible exact Lw.pd2 _)
 | (with_reducible exact Lw.pd3 _)
 | ((with_reducible apply Lw.ix0;(with_reducible first | exact Lw.mX _)))
 | ((with_reducible apply Lw.ix1;(with_reducible first | exact Lw.mX _)))
 | ((with_reducible apply Lw.ix2;(with_reducible first | exact Lw.mX _)))
 | ((with_reducible apply Lw.ix3;(with_reducible first | exact Lw.mX _)))
 | (with_reducible apply Lw.xA)
 | (with_reducible apply Lw.sA)
 | (with_reducible apply Lw.t_2)
 | (with_reducible apply Lw.t_B)
 | (with_reducible apply Lw.sC)
 | (with_reducible apply Lw.sD)
 | (with_reducible apply Lw.vT)
 | (with_reducible apply Lw.Cd)
 | (with_reducible apply Lw.hZ)
 | (with_reducible apply Lw.iS)
 | (with_reducible apply Lw.fH)
 | (with_reducible apply Lw.iq)
 | (with_reducible exact Lw.Dw)
 | (with_reducible apply Lw.Dx)
 | (with_reducible exact Lw.ax)
 | (with_reducible apply Lw.bS)
 | ((with_reducible first | exact Lw.aw _ | exact Lw.bI _ | exact Lw.cH _ | exact Lw.bP | exact Lw.kH _ | exact Lw.bK _ _ _ | exact Lw.lq _ | exact Lw.gL _ _ | exact Lw.fx _ _ _))
 | ((show Mi.D.tag _ ≠ _;exact Lw.ntb rfl))
 | ((show List.length _ <= _;exact Nat.le_of_ble_eq_true rfl))
 | ((show _ < List.length _;exact Nat.le_of_ble_eq_true rfl))
 | ((show List.length _=_;exact rfl))
 | ((show List.set _ _ _=_;(first | ((simp only [List.set_cons_zero,List.set_cons_succ]);with_reducible rfl) | exact rfl)))
 | ((show (_/\_) \/ Mi.D.atom _=true;exact .inr rfl))
 | ((show (_/\_) \/ Mi.D.atom _=true;exact .inl ⟨rfl,Lw.ntb rfl⟩))
 | (with_reducible apply Lw.zj))
namespace Lw
open Mi PySem
noncomputable def aW (p:Parts) (x y:Int) (l:Str):Int:=if l = "r" /\ x + 1 < p.cols then (p.right.getD y.toNat []).getD x.toNat 0 else if l = "u" /\ y + 1 < p.rows then (p.up.getD y.toNat []).getD x.toNat 0 else 0
noncomputable abbrev aH (a:Ads) (p:Parts):D:=.ins .f a.Net (p8 p)
theorem vU (a:Ads) (p:Parts):dk a.Net "right" (aH a p)=.ok (.lst .f (aj .f p.right)):=by
 show (if a.Net=a.Net then _ else _)=_
 rw [if_pos rfl];rfl
theorem Cg (a:Ads) (p:Parts):dk a.Net "up" (aH a p)=.ok (.lst .f (aj .f p.up)):=by
 show (if a.Net=a.Net then _ else _)=_
 rw [if_pos rfl];rfl
theorem ir (a:Ads) (p:Parts):dk a.Net "columns" (aH a p)=.ok (.int p.cols):=by
 show (if a.Net=a.Net then _ else _)=_
 rw [if_pos rfl];rfl
theorem nP (a:Ads) (p:Parts):dk a.Net "rows" (aH a p)=.ok (.int p.rows):=by
 show (if a.Net=a.Net then _ else _)=_
 rw [if_pos rfl];rfl
theorem xC (a:Ads) (p:Parts) (x y:Int):hV a [aH a p,.int x,.int y]=.ok (.bl ((decide (0 <= x) && decide (x < p.cols)) && (decide (0 <= y) && decide (y < p.rows)))):=by
 refine dD (ρ:=[some (aH a p),some (.int x),some (.int y)]) rfl ?_
 unfold ow
 (repeat' first | (with_reducible apply ir) | (with_reducible apply nP) | sizeOf_list_dec)
theorem jt (g:List (List Int)) (y:Int) (h0:0 <= y) (h1:y < g.length):dIx (.lst .f (aj .f g)) (.int y)=.ok (.lst .f ((g.getD y.toNat []).map D.int)):=by
 obtain ⟨k,rfl⟩:∃ k:Nat,y=(k:Int):=⟨y.toNat,by lia⟩
 have hk:k < g.length:=by lia
 refine gy (x:=.lst .f ((g.getD k []).map D.int)) ?_ rfl
 unfold aj
 rw [List.getElem?_map,List.getElem?_eq_getElem hk]
 simp [List.getD,List.getElem?_eq_getElem hk]
theorem ja {m w:Nat} {p:Parts} (G:Good m w p) (y:Int) (h0:0 <= y) (h1:y < p.rows):(p.right.getD y.toNat []).length + 1=p.cols/\∀ v ∈ p.right.getD y.toNat [],0 <= v/\v <= 1000:=by
 have hk:y.toNat < p.right.length:=by have:=G.rl;lia
 have:p.right.getD y.toNat [] ∈ p.right:=by simp [List.getD,List.getElem?_eq_getElem hk]
 exact G.rr _ this
theorem qa {m w:Nat} {p:Parts} (G:Good m w p) (y:Int) (h0:0 <= y) (h1:y + 1 < p.rows):(p.up.getD y.toNat []).length=p.cols/\∀ v ∈ p.up.getD y.toNat [],0 <= v/\v <= 1000:=by
 have hk:y.toNat < p.up.length:=by have:=G.ul;lia
 have:p.up.getD y.toNat [] ∈ p.up:=by simp [List.getD,List.getElem?_eq_getElem hk]
 exact G.ur _ this
theorem rh {r:List Int} (h:∀ v ∈ r,0 <= v/\v <= 1000) (k:Nat):0 <= r.getD k 0/\r.getD k 0 <= 1000:=by
 by_cases hk:k < r.length
 ·have:r.getD k 0 ∈ r:=by simp [List.getD,List.getElem?_eq_getElem hk]
  exact h _ this
 ·simp [List.getD,List.getElem?_eq_none (Nat.le_of_not_lt hk)]
noncomputable def On (p:Parts) (x y:Int):Prop:=(0 <= x/\x < p.cols)/\(0 <= y/\y < p.rows)
theorem vV {m w:Nat} {p:Parts} (G:Good m w p) {x y:Int} (o:On p x y) (l:Str):0 <= aW p x y l/\aW p x y l <= 1000:=by
 unfold aW
 split
 ·exact rh (ja G y o.2.1 o.2.2).2 _
 ·split
  ·rename_i h;exact rh (qa G y o.2.1 h.2).2 _
  ·lia
theorem qL (a:Ads) {m w:Nat} {p:Parts} (G:Good m w p) {x y:Int} (o:On p x y) (l:Str):dJ a [aH a p,.int x,.int y,.str l]=.ok (.int (aW p x y l)):=by
 refine dD (ρ:=[some (aH a p),some (.int x),some (.int y),some (.str l)]) rfl ?_
 unfold j3 aW
 by_cases h1:l = "r" /\ x + 1 < p.cols
 ·rw [if_pos h1]
  refine cQ (cD (b:=decide (l = "r") && decide (x + 1 < (p.cols:Int))) ?_ (by simp [h1.1,h1.2]) ?_)
  ·(repeat' first | (with_reducible apply ir) | sizeOf_list_dec)
  ·have e1:=jt p.right y o.2.1 (by have:=G.rl;have:=o.2.2;lia)
   have e2:=iA (t:=.f) (p.right.getD y.toNat []) x o.1.1 (by have:=(ja G y o.2.1 o.2.2).1;lia)
   (repeat' first | (with_reducible apply vU) | (with_reducible apply e1) | (with_reducible apply e2) | sizeOf_list_dec)
 ·rw [if_neg h1]
  refine aB (b6 (b:=decide (l = "r") && decide (x + 1 < (p.cols:Int))) ?_ (by by_cases q:l = "r" <;> simp [q] at h1 ⊢;lia) rfl) ?_
  ·(repeat' first | (with_reducible apply ir) | sizeOf_list_dec)
  ·by_cases h2:l = "u" /\ y + 1 < p.rows
   ·rw [if_pos h2]
    refine cQ (cD (b:=decide (l = "u") && decide (y + 1 < (p.rows:Int))) ?_ (by simp [h2.1,h2.2]) ?_)
    ·(repeat' first | (with_reducible apply nP) | sizeOf_list_dec)
    ·have e1:=jt p.up y o.2.1 (by have:=G.ul;have:=h2.2;lia)
     have e2:=iA (t:=.f) (p.up.getD y.toNat []) x o.1.1 (by have:=(qa G y o.2.1 h2.2).1;have:=o.1.2;lia)
     (repeat' first | (with_reducible apply Cg) | (with_reducible apply e1) | (with_reducible apply e2) | sizeOf_list_dec)
   ·rw [if_neg h2]
    refine aB (b6 (b:=decide (l = "u") && decide (y + 1 < (p.rows:Int))) ?_ (by by_cases q:l = "u" <;> simp [q] at h2 ⊢;lia) rfl) ?_
    ·(repeat' first | (with_reducible apply nP) | sizeOf_list_dec)
    ·(repeat' first  | sizeOf_list_dec)
theorem kK {m w:Nat} {p:Parts} (G:Good m w p):dIx (.lst .f (aj .f p.right)) (.int 0)=.ok (.lst .f ((p.right.getD 0 []).map D.int))/\((((p.right.getD 0 []).map D.int).length:Nat):Int)=(p.cols:Int) - 1:=by
 have r1:=G.r1
 have e:=jt p.right 0 (by lia) (by have:=G.rl;lia)
 have l:=(ja G 0 (by lia) (by lia)).1
 have z:(0:Int).toNat=0:=rfl
 rw [z] at l e
 rw [List.length_map]
 exact ⟨e,by lia⟩
theorem qb (a:Ads) {m w:Nat} {p:Parts} (G:Good m w p) {x y:Int} (o:On p x y) (l:Str):cu a [p.d,.int x,.int y,.str l]=.ok (.int (aW p x y l)):=by
 obtain ⟨f0,fl⟩:=kK G
 have ul:(((aj .f p.up).length:Nat):Int)=(p.rows:Int) - 1:=by have:=G.ul;simp [aj];lia
 refine dD (ρ:=[some p.d,some (.int x),some (.int y),some (.str l)]) rfl ?_
 unfold lH aW
 by_cases h1:l = "r" /\ x + 1 < p.cols
 ·rw [if_pos h1]
  refine cQ (cD (b:=decide (l = "r") && decide (x < (((p.right.getD 0 []).map D.int).length:Nat))) ?_ (by rw [fl];have:=h1.2;simp [h1.1];lia) ?_)
  ·(repeat' first | (with_reducible apply f0) | sizeOf_list_dec)
  ·have e1:=jt p.right y o.2.1 (by have:=G.rl;have:=o.2.2;lia)
   have e2:=iA (t:=.f) (p.right.getD y.toNat []) x o.1.1 (by have:=(ja G y o.2.1 o.2.2).1;lia)
   (repeat' first | (with_reducible apply e1) | (with_reducible apply e2) | sizeOf_list_dec)
 ·rw [if_neg h1]
  refine aB (b6 (b:=decide (l = "r") && decide (x < (((p.right.getD 0 []).map D.int).length:Nat))) ?_ (by rw [fl];by_cases q:l = "r" <;> simp [q] at h1 ⊢;lia) rfl) ?_
  ·(repeat' first | (with_reducible apply f0) | sizeOf_list_dec)
  ·by_cases h2:l = "u" /\ y + 1 < p.rows
   ·rw [if_pos h2]
    refine cQ (cD (b:=decide (l = "u") && decide (y < ((aj .f p.up).length:Nat))) ?_ (by rw [ul];have:=h2.2;simp [h2.1];lia) ?_)
    ·(repeat' first  | sizeOf_list_dec)
    ·have e1:=jt p.up y o.2.1 (by have:=G.ul;have:=h2.2;lia)
     have e2:=iA (t:=.f) (p.up.getD y.toNat []) x o.1.1 (by have:=(qa G y o.2.1 h2.2).1;have:=o.1.2;lia)
     (repeat' first | (with_reducible apply e1) | (with_reducible apply e2) | sizeOf_list_dec)
   ·rw [if_neg h2]
    refine aB (b6 (b:=decide (l = "u") && decide (y < ((aj .f p.up).length:Nat))) ?_ (by rw [ul];by_cases q:l = "u" <;> simp [q] at h2 ⊢;lia) rfl) ?_
    ·(repeat' first  | sizeOf_list_dec)
    ·(repeat' first  | sizeOf_list_dec)
noncomputable def nX (x:Int) (l:Str):Int:=if l = "r" then x + 1 else x
noncomputable def nY (y:Int) (l:Str):Int:=if l = "r" then y else y + 1
theorem qc (a:Ads) (x y:Int) (l:Str):dZ a [.int x,.int y,.str l]=.ok (.tup [.int (nX x l),.int (nY y l)]):=by
 have e:(D.tup [.int (nX x l),.int (nY y l)])=if decide (l = "r")=true then .tup [.int (x + 1),.int y] else .tup [.int x,.int (y + 1)]:=by
  unfold nX nY
  by_cases h:l = "r" <;> simp [h]
 refine dD (ρ:=[some (.int x),some (.int y),some (.str l)]) rfl ?_
 unfold jo
 rw [e]
 refine iq (zj ?_ ?_ ?_) ?_
 ·(repeat' first  | sizeOf_list_dec)
 ·(repeat' first  | sizeOf_list_dec)
 ·(repeat' first  | sizeOf_list_dec)
 ·split <;> exact ntb rfl
theorem lr {m w:Nat} {p:Parts} (G:Good m w p) {x y:Int} (o:On p x y) (l:Str) (h:aW p x y l ≠ 0):On p (nX x l) (nY y l):=by
 have o':=o
 unfold On at o' ⊢
 unfold aW at h
 unfold nX nY
 split at h
 ·rename_i q;rw [if_pos q.1,if_pos q.1];lia
 ·split at h
  ·rename_i q1 q
   have:¬ l = "r" := by intro e;rw [e] at q;exact absurd q.1 (by decide)
   rw [if_neg this,if_neg this];lia
  ·exact absurd rfl h
theorem m4 {f:ae->Res D} {ρ:ae} {g:List (List Int)} (h:f ρ=.ok (.lst .f (aj .f g))) (hl:g.length <= 1000):aL 1 [] (aJ f) (av 0) a8 (fCB bz (ac (aa 0) af)) ρ=.ok (.lst .o (aj .o g)):=by
 have hi:aJ f ρ=.ok (aj .f g):=by
  unfold aJ
  rw [h,bok]
  show (if _ then _ else bE (some ((aj .f g).map D.asF)))=_
  rw [if_neg (ntb rfl),kI]
  rfl
 have e:=i9 (cap:=[]) (fi:=aJ f) (fe:=fCB bz (ac (aa 0) af)) (ρ:=ρ) (items:=aj .f g) cpL hi (fun x hx=>by
  obtain ⟨r,_,rfl⟩:=List.mem_map.mp hx
  exact ⟨rfl,ntb rfl⟩) (by simp [aj];exact hl)
 rw [e]
 congr 2
 unfold aj
 rw [List.map_map]
 refine List.map_congr_left fun r _=>?_
 show D.lst .o ((r.map D.int).map D.asF)=_
 rw [c0]
theorem xD (L:List Int):bz [.lst .f (L.map D.int)]=.ok (.lst .o (L.map D.int)):=by
 show Res.ok (D.lst .o ((L.map D.int).map D.asF))=_
 rw [c0]
theorem xE (a:Ads) {m w:Nat} {p:Parts} (h8:m <= 8) (h4:w <= 4) (G:Good m w p):ip a [p.d]=.ok (aH a p):=by
 have r1:=G.r1
 refine dD (ρ:=[some p.d,none,none]) rfl ?_
 unfold mP
 refine aB (ρ':=[some p.d,some (.lst .f (aj .f p.right)),some (.lst .f (aj .f p.up))]) ?_ ?_
 ·unfold vE
  have e0:f2 dIx (aa 0) (fC (.int 0)) [some p.d,none,none]=.ok (.lst .f (aj .f p.right)):=by (repeat' first  | sizeOf_list_dec)
  have e1:f2 dIx (aa 0) (fC (.int 1)) [some p.d,none,none]=.ok (.lst .f (aj .f p.up)):=by (repeat' first  | sizeOf_list_dec)
  rw [ce (m4 e0 (by have:=G.rl;lia)) (ce (m4 e1 (by have:=G.ul;lia)) gU),aok]
  show (if _ then FOut.bad else FOut.nx _)=_
  rw [if_neg (by rintro (z | z | z | z) <;> first | exact nomatch z | exact absurd z (by show ¬ 3 <= _;decide))]
  rw [fx,fx]
  rfl
 ·refine iq ?_ (ntb rfl)
  have ha:ac (aa 1) (ac (aa 2) (ac (fCB bz (ac (f2 dIx (aa 0) (fC (.int 2))) af)) (ac (fCB bz (ac (f2 dIx (aa 0) (fC (.int 3))) af)) af))) [some p.d,some (.lst .f (aj .f p.right)),some (.lst .f (aj .f p.up))]=.ok [.lst .f (aj .f p.right),.lst .f (aj .f p.up),.lst .o (p.starts.map D.int),.lst .o (p.ends.map D.int)]:=by (repeat' first | (with_reducible apply xD) | sizeOf_list_dec)
  have hz:D.fzs [.lst .f (aj .f p.right),.lst .f (aj .f p.up),.lst .o (p.starts.map D.int),.lst .o (p.ends.map D.int)]=[.lst .f (aj .f p.right),.lst .f (aj .f p.up),.lst .f (p.starts.map D.int),.lst .f (p.ends.map D.int)]:=by (repeat' first | (with_reducible exact Lw.ax) | (with_reducible apply Lw.bS) | (with_reducible first | exact Lw.aw _ | exact Lw.bI _ | exact Lw.cH _ | exact Lw.bP | exact Lw.kH _ | exact Lw.bK _ _ _ | exact Lw.lq _ | exact Lw.gL _ _ | exact Lw.fx _ _ _))
  unfold rY
  rw [ha,bok,if_pos ⟨rfl,rfl⟩,hz,tR fun x=>zg a x p m w h8 h4 G]
  rfl
noncomputable def go (p:Parts):List Str->Int->Int->Option (List (Int × Int) × Int)
 | [],_,_=>some ([],1)
 | l::ls,x,y=>if aW p x y l=0 then none else match go p ls (nX x l) (nY y l) with
  | some (ps,w)=>some ((nX x l,nY y l)::ps,aW p x y l * w)
  | none=>none
noncomputable def plD (q:Int × Int):D:=.tup [.int q.1,.int q.2]
noncomputable abbrev kL (a:Ads):ae->FOut:=(ao (aq 7 (fFz (au 4 (cu a) (ac (aa 0) (ac (aa 1) (ac (aa 2) (ac (aa 6) af)))))))
 (ao (gIf (ft2 dEq (aa 7) (fC (.int 0))) (aK (fC .non)) aC)
 (ao (aq 5 (fFz (f2 dE (aa 5) (aa 7))))
 (ao (gIf (ft2 dEq (aa 6) (fC (.str "r"))) (aq 1 (fFz (f2 aP (aa 1) (fC (.int 1))))) (aq 2 (fFz (f2 aP (aa 2) (fC (.int 1))))))
 (c7 4 (bj (ac (aa 1) (ac (aa 2) af))))))))
noncomputable def stW (p:Parts) (x y:Int) (w0:Option D) (Fd:List (Int × Int)) (t:Int) (l s:Option D):ae:=[some p.d,some (.int x),some (.int y),w0,some (.lst .o (Fd.map plD)),some (.int t),l,s]
theorem oI (a:Ads) {m w:Nat} {p:Parts} (G:Good m w p) (w0:Option D):∀ (ls:List Str) (x y t:Int) (Fd:List (Int × Int)) (e1 e2:Option D),On p x y->Fd.length + ls.length < 1000 →
    match go p ls x y with
    | none=>bv (av 6) (kL a) (ls.map D.str) (stW p x y w0 Fd t e1 e2)=.rt .non
    | some (ps,v)=>∃ x' y' e1' e2',bv (av 6) (kL a) (ls.map D.str) (stW p x y w0 Fd t e1 e2)=.nx (stW p x' y' w0 (Fd ++ ps) (t * v) e1' e2')
 | [],x,y,t,Fd,e1,e2,_,_=>⟨x,y,e1,e2,by show FOut.nx _=_;rw [List.append_nil,Int.mul_one]⟩
 | l::ls,x,y,t,Fd,e1,e2,o,hl=>by
  have st:=qb a G o l
  have t1:av 6 (.str l) (stW p x y w0 Fd t e1 e2)=.ok (stW p x y w0 Fd t (some (.str l)) e2):=js (by show 6 < 8;decide) rfl
  have s1:aq 7 (fFz (au 4 (cu a) (ac (aa 0) (ac (aa 1) (ac (aa 2) (ac (aa 6) af)))))) (stW p x y w0 Fd t (some (.str l)) e2)=.nx (stW p x y w0 Fd t (some (.str l)) (some (.int (aW p x y l)))):=by
   unfold stW
   (repeat' first | (with_reducible apply st) | sizeOf_list_dec)
  have hin:=vV G o l
  show match (if aW p x y l=0 then none else match go p ls (nX x l) (nY y l) with
      | some (ps,w)=>some ((nX x l,nY y l)::ps,aW p x y l * w)
      | none=>none) with
   | none=>bv (av 6) (kL a) (.str l::ls.map D.str) (stW p x y w0 Fd t e1 e2)=.rt .non
   | some (ps,v)=>∃ x' y' e1' e2',bv (av 6) (kL a) (.str l::ls.map D.str) (stW p x y w0 Fd t e1 e2)=.nx (stW p x' y' w0 (Fd ++ ps) (t * v) e1' e2')
  by_cases h0:aW p x y l=0
  ·rw [if_pos h0]
   refine mZ t1 (aB s1 (cQ (cD (b:=decide (aW p x y l=0)) ?_ (by rw [h0];rfl) ?_)))
   ·unfold stW;(repeat' first  | sizeOf_list_dec)
   ·(repeat' first  | sizeOf_list_dec)
  ·rw [if_neg h0]
   have o':=lr G o l h0
   have hm:dE (.int t) (.int (aW p x y l))=.ok (.int (t * aW p x y l)):=sk _ _ (by lia)
   have b:kL a (stW p x y w0 Fd t (some (.str l)) e2)=.nx (stW p (nX x l) (nY y l) w0 (Fd ++ [(nX x l,nY y l)]) (t * aW p x y l) (some (.str l)) (some (.int (aW p x y l)))):=by
    refine aB s1 (aB (ρ':=stW p x y w0 Fd t (some (.str l)) (some (.int (aW p x y l)))) (b6 (b:=decide (aW p x y l=0)) ?_ (by simpa using h0) rfl) (aB (ρ':=stW p x y w0 Fd (t * aW p x y l) (some (.str l)) (some (.int (aW p x y l)))) ?_ (aB (ρ':=stW p (nX x l) (nY y l) w0 Fd (t * aW p x y l) (some (.str l)) (some (.int (aW p x y l)))) ?_ ?_)))
    ·unfold stW;(repeat' first  | sizeOf_list_dec)
    ·unfold stW;(repeat' first | (with_reducible apply hm) | sizeOf_list_dec)
    ·unfold nX nY
     by_cases q:l = "r"
     ·rw [if_pos q,if_pos q]
      refine cD (b:=decide (l = "r")) ?_ (by simpa using q) ?_
      ·unfold stW;(repeat' first  | sizeOf_list_dec)
      ·unfold stW;(repeat' first  | sizeOf_list_dec)
     ·rw [if_neg q,if_neg q]
      refine b6 (b:=decide (l = "r")) ?_ (by simpa using q) ?_
      ·unfold stW;(repeat' first  | sizeOf_list_dec)
      ·unfold stW;(repeat' first  | sizeOf_list_dec)
    ·refine mY (xs:=Fd.map plD) (d:=plD (nX x l,nY y l)) rfl ?_ (ntb rfl) (by simp at hl ⊢;lia) ?_
     ·unfold stW plD;(repeat' first  | sizeOf_list_dec)
     ·show _=stW _ _ _ _ _ _ _ _
      unfold stW
      rw [List.map_append]
      rfl
   have ih:=oI a G w0 ls (nX x l) (nY y l) (t * aW p x y l) (Fd ++ [(nX x l,nY y l)]) (some (.str l)) (some (.int (aW p x y l))) o' (by simp at hl ⊢;lia)
   revert ih
   cases hg:go p ls (nX x l) (nY y l) with
   | none=>intro ih;exact cm t1 b ih
   | some q =>
    obtain ⟨ps,v⟩:=q
    rintro ⟨x',y',e1',e2',ih⟩
    refine ⟨x',y',e1',e2',cm t1 b (ih.trans ?_)⟩
    rw [List.append_assoc,Int.mul_assoc]
    rfl
noncomputable def ins (p:Parts) (x y:Int):Bool:=(decide (0 <= x) && decide (x < p.cols)) && (decide (0 <= y) && decide (y < p.rows))
theorem ins_on {p:Parts} {x y:Int}:ins p x y=true ↔ On p x y:=by unfold ins On;simp
noncomputable def dF (x:Str):List Str:=x.cps.toList.map fun c=>⟨#[c]⟩
theorem xF (x:Str):lY x=(dF x).map D.str:=by unfold lY dF;rw [List.map_map];rfl
theorem jU (x:Str):(dF x).length=x.length:=by unfold dF;simp [Str.length]
theorem qd {f:ae->Res D} {ρ:ae} {x:Str} (h:f ρ=.ok (.str x)) (ha:asc x=true):aJ f ρ=.ok ((dF x).map D.str):=by
 unfold aJ;rw [h,bok,<- xF]
 show (if _ then _ else _)=_
 rw [if_pos ha]
noncomputable def due (p:Parts) (x y:Int) (s:Str):Option (List (Int × Int) × Int):=if ins p x y=true then go p (dF s) x y else none
theorem m5 (t:Tg) (L:List (Int × Int)):(D.lst t (L.map plD)).fz=.lst .f (L.map plD):=by
 rw [aE]
 congr 1
 induction L with
 | nil=>exact ax
 | cons q L ih=>rw [List.map_cons,am,ih];unfold plD;rw [bp,am,am,ax,aw,aw]
noncomputable def Dy:Option (List (Int × Int) × Int)->Int->Int->D
 | none,_,_=>.non
 | some (ps,w),x,y=>.tup [.lst .f (((x,y)::ps).map plD),.int w]
theorem vW (a:Ads) {m w:Nat} {p:Parts} (G:Good m w p) (x y:Int) (s:Str) (ha:asc s=true) (hl:s.length < 900):eQ a [p.d,.int x,.int y,.str s]=.ok (Dy (due p x y s) x y):=by
 obtain ⟨f0,fl⟩:=kK G
 have rl:(((aj .f p.right).length:Nat):Int)=(p.rows:Int):=by have:=G.rl;simp [aj];lia
 refine dD (ρ:=[some p.d,some (.int x),some (.int y),some (.str s),none,none,none,none]) rfl ?_
 unfold lI due
 have ht:fV (bh (ftB (bX (fun i j=>decide (i <= j)) (fun i j=>decide (i <= j)) (fC (.int 0)) (aa 1) (fCB aR (ac (f2 dIx (f2 dIx (aa 0) (fC (.int 0))) (fC (.int 0))) af))))) (bh (ftB (bX (fun i j=>decide (i <= j)) (fun i j=>decide (i < j)) (fC (.int 0)) (aa 2) (fCB aR (ac (f2 dIx (aa 0) (fC (.int 0))) af))))) [some p.d,some (.int x),some (.int y),some (.str s),none,none,none,none]=.ok (!ins p x y):=by
  have e:(!ins p x y)=((!(decide (0 <= x) && decide (x <= (((p.right.getD 0 []).map D.int).length:Nat)))) || (!(decide (0 <= y) && decide (y < ((aj .f p.right).length:Nat))))):=by
   rw [fl,rl];unfold ins
   rw [show decide (x <= (p.cols:Int) - 1)=decide (x < (p.cols:Int)) from decide_eq_decide.mpr (by lia),Bool.not_and]
  rw [e]
  (repeat' first | (with_reducible apply f0) | sizeOf_list_dec)
 by_cases hi:ins p x y=true
 ·rw [if_pos hi]
  have o:=ins_on.mp hi
  have lp:=oI a G (some (.str s)) (dF s) x y 1 [(x,y)] none none o (by rw [jU];simp;lia)
  refine aB (b6 ht (by rw [hi];rfl) rfl) (aB (ρ':=[some p.d,some (.int x),some (.int y),some (.str s),some (.lst .o ([(x,y)].map plD)),none,none,none]) ?_ (aB (ρ':=stW p x y (some (.str s)) [(x,y)] 1 none none) ?_ ?_))
  ·(repeat' first  | sizeOf_list_dec)
  ·unfold stW;(repeat' first  | sizeOf_list_dec)
  ·have ff:=qd (f:=aa 3) (ρ:=stW p x y (some (.str s)) [(x,y)] 1 none none) (x:=s) rfl ha
   revert lp
   cases hg:go p (dF s) x y with
   | none=>intro lp;exact cQ (bu ff lp)
   | some q =>
    obtain ⟨ps,v⟩:=q
    rintro ⟨x',y',e1,e2,lp⟩
    refine aB (bu ff lp) ?_
    show aK _ (frzAt 4 (stW _ _ _ _ _ _ _ _))=_
    have fr:frzAt 4 (stW p x' y' (some (.str s)) ([(x,y)] ++ ps) (1 * v) e1 e2)=[some p.d,some (.int x'),some (.int y'),some (.str s),some (.lst .f (((x,y)::ps).map plD)),some (.int v),e1,e2]:=by
     unfold frzAt stW
     show List.set _ 4 (some (D.fz (.lst .o (([(x,y)] ++ ps).map plD))))=_
     rw [m5,Int.one_mul]
     rfl
    rw [fr]
    show _=FOut.rt (.tup [.lst .f (((x,y)::ps).map plD),.int v])
    have fp:=m5 .f ((x,y)::ps)
    (repeat' first | (with_reducible apply fp) | sizeOf_list_dec)
 ·rw [if_neg hi]
  have hi':ins p x y=false:=by simpa using hi
  refine cQ (cD ht (by rw [hi'];rfl) ?_)
  show _=FOut.rt .non
  (repeat' first  | sizeOf_list_dec)
noncomputable abbrev qe (a:Ads):ae->FOut:=(ao (aq 6 (fFz (f2 dIx (aa 4) (f1 jG (fC (.int 1))))))
 (ao (gIf (ft2 dEq (au 4 (dJ a) (ac (aa 0) (ac (f2 dIx (aa 6) (fC (.int 0))) (ac (f2 dIx (aa 6) (fC (.int 1))) (ac (aa 5) af))))) (fC (.int 0))) (fun _=>.exc (.ref a.BadWalk)) aC)
 (c7 4 (au 3 (dZ a) (ac (f2 dIx (aa 6) (fC (.int 0))) (ac (f2 dIx (aa 6) (fC (.int 1))) (ac (aa 5) af)))))))
noncomputable def stP (a:Ads) (p:Parts) (x0 y0:Option D) (w0:Option D) (Fd:List (Int × Int)) (l s:Option D):ae:=[some (aH a p),x0,y0,w0,some (.lst .o (Fd.map plD)),l,s]
theorem zm (xs:List D) (x x':D) (h:x.rd=x'):dIx (.lst .b (xs ++ [x])) (.int (-1))=.ok x':=by
 have e:L2.ixN (xs ++ [x]).length (-1)=some xs.length:=by
  unfold L2.ixN
  rw [List.length_append,if_neg (by decide),if_pos (by simp;lia)]
  congr 1
  simp;lia
 show (match L2.ixN (xs ++ [x]).length (-1) with
  | some j=>bE (D.el (.lst .b (xs ++ [x])) j)
  | none=>Res.bad)=_
 rw [e]
 show bE ((xs ++ [x])[xs.length]?.map D.rd)=_
 rw [<- h]
 simp [bE]
theorem m6 (q:Int × Int):(plD q).fz=plD q:=by unfold plD;rw [bp,am,am,ax,aw,aw]
theorem lO (a:Ads) {m w:Nat} {p:Parts} (G:Good m w p) (x0 y0 w0:Option D):∀ (ls:List Str) (x y:Int) (Fd:List (Int × Int)) (e1 e2:Option D),On p x y->Fd.length + ls.length < 999 →
    match go p ls x y with
    | none=>bv (av 5) (qe a) (ls.map D.str) (stP a p x0 y0 w0 (Fd ++ [(x,y)]) e1 e2)=.exc (.ref a.BadWalk)
    | some (ps,_)=>∃ e1' e2',bv (av 5) (qe a) (ls.map D.str) (stP a p x0 y0 w0 (Fd ++ [(x,y)]) e1 e2)=.nx (stP a p x0 y0 w0 (Fd ++ (x,y)::ps) e1' e2')
 | [],x,y,Fd,e1,e2,_,_=>⟨e1,e2,rfl⟩
 | l::ls,x,y,Fd,e1,e2,o,hl=>by
  have st:=qL a G o l
  have pb:=qc a x y l
  have lb:dIx (.lst .b ((Fd ++ [(x,y)]).map plD)) (.int (-1))=.ok (plD (x,y)):=by rw [List.map_append];exact zm _ _ _ rfl
  have t1:av 5 (.str l) (stP a p x0 y0 w0 (Fd ++ [(x,y)]) e1 e2)=.ok (stP a p x0 y0 w0 (Fd ++ [(x,y)]) (some (.str l)) e2):=js (by show 5 < 7;decide) rfl
  have fq:=m6 (x,y)
  have s1:aq 6 (fFz (f2 dIx (aa 4) (f1 jG (fC (.int 1))))) (stP a p x0 y0 w0 (Fd ++ [(x,y)]) (some (.str l)) e2)=.nx (stP a p x0 y0 w0 (Fd ++ [(x,y)]) (some (.str l)) (some (plD (x,y)))):=by
   unfold stP
   (repeat' first | (with_reducible apply lb) | (with_reducible apply fq) | sizeOf_list_dec)
  show match (if aW p x y l=0 then none else match go p ls (nX x l) (nY y l) with
      | some (ps,w)=>some ((nX x l,nY y l)::ps,aW p x y l * w)
      | none=>none) with
   | none=>bv (av 5) (qe a) (.str l::ls.map D.str) (stP a p x0 y0 w0 (Fd ++ [(x,y)]) e1 e2)=.exc (.ref a.BadWalk)
   | some (ps,_)=>∃ e1' e2',bv (av 5) (qe a) (.str l::ls.map D.str) (stP a p x0 y0 w0 (Fd ++ [(x,y)]) e1 e2)=.nx (stP a p x0 y0 w0 (Fd ++ (x,y)::ps) e1' e2')
  have tt:ft2 dEq (au 4 (dJ a) (ac (aa 0) (ac (f2 dIx (aa 6) (fC (.int 0))) (ac (f2 dIx (aa 6) (fC (.int 1))) (ac (aa 5) af))))) (fC (.int 0)) (stP a p x0 y0 w0 (Fd ++ [(x,y)]) (some (.str l)) (some (plD (x,y))))=.ok (decide (aW p x y l=0)):=by
   unfold stP plD
   (repeat' first | (with_reducible apply st) | sizeOf_list_dec)
  by_cases h0:aW p x y l=0
  ·rw [if_pos h0]
   exact xB t1 (aB s1 (p9 (cD tt (by rw [h0];rfl) rfl)))
  ·rw [if_neg h0]
   have o':=lr G o l h0
   have b:qe a (stP a p x0 y0 w0 (Fd ++ [(x,y)]) (some (.str l)) e2)=.nx (stP a p x0 y0 w0 ((Fd ++ [(x,y)]) ++ [(nX x l,nY y l)]) (some (.str l)) (some (plD (x,y)))):=by
    refine aB s1 (aB (b6 tt (by simpa using h0) rfl) (mY (xs:=(Fd ++ [(x,y)]).map plD) (d:=plD (nX x l,nY y l)) rfl ?_ (ntb rfl) (by simp at hl ⊢;lia) ?_))
    ·unfold stP plD;(repeat' first | (with_reducible apply pb) | sizeOf_list_dec)
    ·show _=stP _ _ _ _ _ _ _ _
     unfold stP
     rw [List.map_append (l₁:=Fd ++ [(x,y)])]
     rfl
   have ih:=lO a G x0 y0 w0 ls (nX x l) (nY y l) (Fd ++ [(x,y)]) (some (.str l)) (some (plD (x,y))) o' (by simp at hl ⊢;lia)
   revert ih
   cases hg:go p ls (nX x l) (nY y l) with
   | none=>intro ih;exact cm t1 b ih
   | some q =>
    obtain ⟨ps,v⟩:=q
    rintro ⟨e1',e2',ih⟩
    refine ⟨e1',e2',cm t1 b (ih.trans ?_)⟩
    rw [List.append_assoc]
    rfl
noncomputable def plR (a:Ads) (x y:Int):Option (List (Int × Int) × Int)->Res D
 | none=>.exc (.ref a.BadWalk)
 | some (ps,_)=>.ok (.lst .o (((x,y)::ps).map plD))
theorem zn (a:Ads) {m w:Nat} {p:Parts} (G:Good m w p) (x y:Int) (s:Str) (ha:asc s=true) (hl:s.length < 900):gH a [aH a p,.int x,.int y,.str s]=plR a x y (due p x y s):=by
 have lo:=xC a p x y
 have ht:bh (ftB (au 3 (hV a) (ac (aa 0) (ac (aa 1) (ac (aa 2) af))))) [some (aH a p),some (.int x),some (.int y),some (.str s),none,none,none]=.ok (!ins p x y):=by
  unfold ins;(repeat' first | (with_reducible apply lo) | sizeOf_list_dec)
 unfold due
 by_cases hi:ins p x y=true
 ·rw [if_pos hi]
  have o:=ins_on.mp hi
  have lp:=lO a G (some (.int x)) (some (.int y)) (some (.str s)) (dF s) x y [] none none o (by rw [jU];simp;lia)
  have ff:=qd (f:=aa 3) (ρ:=stP a p (some (.int x)) (some (.int y)) (some (.str s)) ([] ++ [(x,y)]) none none) (x:=s) rfl ha
  have s4:aq 4 (bd (ac (bj (ac (aa 1) (ac (aa 2) af))) af)) [some (aH a p),some (.int x),some (.int y),some (.str s),none,none,none]=.nx (stP a p (some (.int x)) (some (.int y)) (some (.str s)) ([] ++ [(x,y)]) none none):=by
   show _=FOut.nx [some (aH a p),some (.int x),some (.int y),some (.str s),some (.lst .o [.tup [.int x,.int y]]),none,none]
   (repeat' first  | sizeOf_list_dec)
  revert lp
  cases hg:go p (dF s) x y with
  | none =>
   intro lp
   refine wC (ρ:=[some (aH a p),some (.int x),some (.int y),some (.str s),none,none,none]) rfl ?_
   unfold jS
   exact aB (b6 ht (by rw [hi];rfl) rfl) (aB s4 (p9 (bu ff lp)))
  | some q =>
   obtain ⟨ps,v⟩:=q
   rintro ⟨e1,e2,lp⟩
   refine dD (ρ:=[some (aH a p),some (.int x),some (.int y),some (.str s),none,none,none]) rfl ?_
   unfold jS
   exact aB (b6 ht (by rw [hi];rfl) rfl) (aB s4 (aB (bu ff lp) rfl))
 ·rw [if_neg hi]
  have hi':ins p x y=false:=by simpa using hi
  refine wC (ρ:=[some (aH a p),some (.int x),some (.int y),some (.str s),none,none,none]) rfl ?_
  unfold jS
  exact p9 (cD ht (by rw [hi'];rfl) rfl)
theorem qf {p:Parts} {x y:Int} {s:Str} {q:List (Int × Int) × Int} (h:due p x y s=some q):On p x y/\go p (dF s) x y=some q:=by
 unfold due at h
 split at h
 ·rename_i hi;exact ⟨ins_on.mp hi,h⟩
 ·cases h
theorem kM (a:Ads) (p:Parts):dk a.Net "starts" (aH a p)=.ok (.lst .f (p.starts.map D.int)):=by
 show (if a.Net=a.Net then _ else _)=_
 rw [if_pos rfl];rfl
theorem rj (a:Ads) (p:Parts):dk a.Net "ends" (aH a p)=.ok (.lst .f (p.ends.map D.int)):=by
 show (if a.Net=a.Net then _ else _)=_
 rw [if_pos rfl];rfl
theorem uG {f:ae->Res D} {ρ:ae} {L:List Int} (h:f ρ=.ok (.lst .f (L.map D.int))):aJ f ρ=.ok (L.map D.int):=by
 unfold aJ;rw [h,bok]
 show (if _ then _ else bE (some ((L.map D.int).map D.asF)))=_
 rw [if_neg (ntb rfl),c0]
 rfl
theorem gM {m w:Nat} {p:Parts} (G:Good m w p):p.ends.length <= w/\p.starts.length=p.ends.length/\(∀ e ∈ p.ends,0 <= e/\e < p.rows)/\(∀ e ∈ p.starts,0 <= e/\e < p.rows)/\1 <= p.starts.length:=by
 obtain ⟨k,k1,k2,rs,re⟩:=G.many
 exact ⟨by rw [re.len];exact k2,by rw [rs.len,re.len],re.inn,rs.inn,by rw [rs.len];exact k1⟩
noncomputable abbrev Pt:=(Int × Int) × Str
noncomputable def prD (q:Pt):D:=.tup [.tup [.int q.1.1,.int q.1.2],.str q.2]
noncomputable def thX (x:Int) (l:Str):Int:=x + (if decide (l = "r") then 1 else 0)
noncomputable def thY (y:Int) (l:Str):Int:=y + (if decide (l = "u") then 1 else 0)
noncomputable def fK (p:Parts) (ex ey:Int) (q:Pt) (l:Str):List Pt:=if (decide (thX q.1.1 l <= ex) && decide (thY q.1.2 l <= ey))=true/\0 < aW p q.1.1 q.1.2 l then [((thX q.1.1 l,thY q.1.2 l),q.2 ++ l)] else []
noncomputable def ext (p:Parts) (ex ey:Int) (q:Pt):List Pt:=fK p ex ey q "r" ++ fK p ex ey q "u"
noncomputable def bfs (p:Parts) (ex ey:Int):Nat->List Pt->List Pt
 | 0,R=>R
 | n + 1,R=>bfs p ex ey n (R.flatMap (ext p ex ey))
theorem Ch (q:Pt):(prD q).fz=prD q:=by unfold prD;rw [bp,am,am,ax,bp,am,am,ax,aw,aw,bI]
theorem nQ:∀ L:List Pt,D.fzs (L.map prD)=L.map prD
 | []=>ax
 | q::L=>by rw [List.map_cons,am,Ch,nQ L]
noncomputable def stB (p:Parts) (h:Option D) (ex ey:Int) (R:Option D) (t:Option D) (Lg:List Pt) (e6 e7 e8 e9 e10:Option D):ae:=[some p.d,h,some (.tup [.int ex,.int ey]),R,t,some (.lst .o (Lg.map prD)),e6,e7,e8,e9,e10]
noncomputable abbrev gbL (a:Ads):ae->FOut:=(ao (aq 9 (fFz (bj (ac (f2 aP (f2 dIx (aa 6) (fC (.int 0))) (fCB iI (ac (f2 dEq (aa 8) (fC (.str "r"))) af))) (ac (f2 aP (f2 dIx (aa 6) (fC (.int 1))) (fCB iI (ac (f2 dEq (aa 8) (fC (.str "u"))) af))) af)))))
 (ao (aq 10 (fFz (iH (f2 dLe (f2 dIx (aa 9) (fC (.int 0))) (f2 dIx (aa 2) (fC (.int 0)))) (f2 dLe (f2 dIx (aa 9) (fC (.int 1))) (f2 dIx (aa 2) (fC (.int 1)))))))
 (gIf (cW (ftB (aa 10)) (ft2 dGt (au 4 (cu a) (ac (aa 0) (ac (f2 dIx (aa 6) (fC (.int 0))) (ac (f2 dIx (aa 6) (fC (.int 1))) (ac (aa 8) af))))) (fC (.int 0)))) (c7 5 (bj (ac (aa 9) (ac (f2 aP (aa 7) (aa 8)) af)))) aC)))
theorem xG (b:Bool):iI [.bl b]=.ok (.int (if b then 1 else 0)):=rfl
theorem rk (i j:Str) (h:i.length + j.length <= 1000):aP (.str i) (.str j)=.ok (.str (i ++ j)):=by
 show (if i.length + j.length <= sizeLine then _ else _)=_
 rw [if_pos (fG h)]
theorem qg (a:Ads) {m w:Nat} {p:Parts} (G:Good m w p) (h:Option D) (ex ey:Int) (R t:Option D) (Lg:List Pt) (q:Pt) (o:On p q.1.1 q.1.2) (hq:q.2.length < 500) (l:Str) (hl:l.length=1) (hL:Lg.length < 900) (e9 e10:Option D) :
    ∃ e9' e10',gbL a (stB p h ex ey R t Lg (some (.tup [.int q.1.1,.int q.1.2])) (some (.str q.2)) (some (.str l)) e9 e10)=.nx (stB p h ex ey R t (Lg ++ fK p ex ey q l) (some (.tup [.int q.1.1,.int q.1.2])) (some (.str q.2)) (some (.str l)) e9' e10'):=by
 have st:=qb a G o l
 have ca:=rk q.2 l (by lia)
 have s9:aq 9 (fFz (bj (ac (f2 aP (f2 dIx (aa 6) (fC (.int 0))) (fCB iI (ac (f2 dEq (aa 8) (fC (.str "r"))) af))) (ac (f2 aP (f2 dIx (aa 6) (fC (.int 1))) (fCB iI (ac (f2 dEq (aa 8) (fC (.str "u"))) af))) af)))) (stB p h ex ey R t Lg (some (.tup [.int q.1.1,.int q.1.2])) (some (.str q.2)) (some (.str l)) e9 e10)=.nx (stB p h ex ey R t Lg (some (.tup [.int q.1.1,.int q.1.2])) (some (.str q.2)) (some (.str l)) (some (.tup [.int (thX q.1.1 l),.int (thY q.1.2 l)])) e10):=by
  have fzt:(D.tup [.int (thX q.1.1 l),.int (thY q.1.2 l)]).fz=.tup [.int (thX q.1.1 l),.int (thY q.1.2 l)]:=by rw [bp,am,am,ax,aw,aw]
  unfold thX thY at fzt ⊢
  unfold stB
  (repeat' first | (with_reducible apply xG) | (with_reducible apply fzt) | sizeOf_list_dec)
 have s10:aq 10 (fFz (iH (f2 dLe (f2 dIx (aa 9) (fC (.int 0))) (f2 dIx (aa 2) (fC (.int 0)))) (f2 dLe (f2 dIx (aa 9) (fC (.int 1))) (f2 dIx (aa 2) (fC (.int 1)))))) (stB p h ex ey R t Lg (some (.tup [.int q.1.1,.int q.1.2])) (some (.str q.2)) (some (.str l)) (some (.tup [.int (thX q.1.1 l),.int (thY q.1.2 l)])) e10)=.nx (stB p h ex ey R t Lg (some (.tup [.int q.1.1,.int q.1.2])) (some (.str q.2)) (some (.str l)) (some (.tup [.int (thX q.1.1 l),.int (thY q.1.2 l)])) (some (.bl (decide (thX q.1.1 l <= ex) && decide (thY q.1.2 l <= ey))))):=by
  unfold stB
  (repeat' first  | sizeOf_list_dec)
 have tt:cW (ftB (aa 10)) (ft2 dGt (au 4 (cu a) (ac (aa 0) (ac (f2 dIx (aa 6) (fC (.int 0))) (ac (f2 dIx (aa 6) (fC (.int 1))) (ac (aa 8) af))))) (fC (.int 0))) (stB p h ex ey R t Lg (some (.tup [.int q.1.1,.int q.1.2])) (some (.str q.2)) (some (.str l)) (some (.tup [.int (thX q.1.1 l),.int (thY q.1.2 l)])) (some (.bl (decide (thX q.1.1 l <= ex) && decide (thY q.1.2 l <= ey)))))=.ok ((decide (thX q.1.1 l <= ex) && decide (thY q.1.2 l <= ey)) && decide (0 < aW p q.1.1 q.1.2 l)):=by
  unfold stB
  (repeat' first | (with_reducible apply st) | sizeOf_list_dec)
 refine ⟨some (.tup [.int (thX q.1.1 l),.int (thY q.1.2 l)]),some (.bl (decide (thX q.1.1 l <= ex) && decide (thY q.1.2 l <= ey))),aB s9 (aB s10 ?_)⟩
 unfold fK
 by_cases hc:(decide (thX q.1.1 l <= ex) && decide (thY q.1.2 l <= ey))=true/\0 < aW p q.1.1 q.1.2 l
 ·rw [if_pos hc]
  refine cD tt (by rw [hc.1];simpa using hc.2) (mY (xs:=Lg.map prD) (d:=prD ((thX q.1.1 l,thY q.1.2 l),q.2 ++ l)) rfl ?_ (ntb rfl) (by simp;lia) ?_)
  ·have fzt:(D.tup [.int (thX q.1.1 l),.int (thY q.1.2 l)]).fz=.tup [.int (thX q.1.1 l),.int (thY q.1.2 l)]:=by rw [bp,am,am,ax,aw,aw]
   unfold stB prD;(repeat' first | (with_reducible apply ca) | (with_reducible apply fzt) | sizeOf_list_dec)
  ·unfold stB;rw [List.map_append];rfl
 ·rw [if_neg hc,List.append_nil]
  refine b6 tt ?_ rfl
  cases hb:(decide (thX q.1.1 l <= ex) && decide (thY q.1.2 l <= ey)) with
  | false=>rfl
  | true=>simp [hb] at hc;simp;lia
theorem l9 (p:Parts) (ex ey:Int) (q:Pt) (l:Str):(fK p ex ey q l).length <= 1:=by unfold fK;split <;> simp
theorem rm (p:Parts) (ex ey:Int) (q:Pt):(ext p ex ey q).length <= 2:=by
 unfold ext
 have:=l9 p ex ey q "r"
 have:=l9 p ex ey q "u"
 rw [List.length_append];lia
theorem ma (p:Parts) (ex ey:Int):∀ R:List Pt,(R.flatMap (ext p ex ey)).length <= 2 * R.length
 | []=>by simp
 | q::R=>by
  have:=rm p ex ey q
  have:=ma p ex ey R
  rw [List.flatMap_cons,List.length_append,List.length_cons];lia
theorem xH:(dF "ru").map D.str=[.str "r", .str "u"]:=by rfl
noncomputable abbrev gbQ (a:Ads):ae->FOut:=bH (aJ (fC (.str "ru"))) (av 8) (gbL a)
theorem zo (a:Ads) {m w:Nat} {p:Parts} (G:Good m w p) (h:Option D) (ex ey:Int) (R t:Option D) (Lg:List Pt) (q:Pt) (o:On p q.1.1 q.1.2) (hq:q.2.length < 500) (hL:Lg.length < 890) (e8 e9 e10:Option D) :
    ∃ e8' e9' e10',gbQ a (stB p h ex ey R t Lg (some (.tup [.int q.1.1,.int q.1.2])) (some (.str q.2)) e8 e9 e10)=.nx (stB p h ex ey R t (Lg ++ ext p ex ey q) (some (.tup [.int q.1.1,.int q.1.2])) (some (.str q.2)) e8' e9' e10'):=by
 have fi:=qd (f:=fC (.str "ru")) (ρ:=stB p h ex ey R t Lg (some (.tup [.int q.1.1,.int q.1.2])) (some (.str q.2)) e8 e9 e10) (x := "ru") rfl (by decide +kernel)
 rw [xH] at fi
 obtain ⟨f9,f10,b1⟩:=qg a G h ex ey R t Lg q o hq "r" (by decide +kernel) (by lia) e9 e10
 obtain ⟨g9,g10,b2⟩:=qg a G h ex ey R t (Lg ++ fK p ex ey q "r") q o hq "u" (by decide +kernel) (by have:=l9 p ex ey q "r"; rw [List.length_append];lia) f9 f10
 refine ⟨some (.str "u"),g9,g10,bu fi (cm (ρ1:=stB p h ex ey R t Lg (some (.tup [.int q.1.1,.int q.1.2])) (some (.str q.2)) (some (.str "r")) e9 e10) (js (by show 8 < 11;decide) rfl) b1 (cm (ρ1:=stB p h ex ey R t (Lg ++ fK p ex ey q "r") (some (.tup [.int q.1.1,.int q.1.2])) (some (.str q.2)) (some (.str "u")) f9 f10) (js (by show 8 < 11;decide) rfl) b2 ?_))⟩
 unfold ext
 rw [<- List.append_assoc]
 rfl
theorem uH (a:Ads) {m w:Nat} {p:Parts} (G:Good m w p) (h:Option D) (ex ey:Int) (R t:Option D):∀ (L Lg:List Pt) (e6 e7 e8 e9 e10:Option D),(∀ q ∈ L,On p q.1.1 q.1.2/\q.2.length < 500)->Lg.length + 2 * L.length < 890 →
    ∃ e6' e7' e8' e9' e10',bv (bw [6,7]) (gbQ a) (L.map prD) (stB p h ex ey R t Lg e6 e7 e8 e9 e10)=.nx (stB p h ex ey R t (Lg ++ L.flatMap (ext p ex ey)) e6' e7' e8' e9' e10')
 | [],Lg,e6,e7,e8,e9,e10,_,_=>⟨e6,e7,e8,e9,e10,by rw [List.flatMap_nil,List.append_nil];rfl⟩
 | q::L,Lg,e6,e7,e8,e9,e10,hL,hl=>by
  have hq:=hL q List.mem_cons_self
  obtain ⟨f8,f9,f10,b⟩:=zo a G h ex ey R t Lg q hq.1 hq.2 (by simp at hl;lia) e8 e9 e10
  obtain ⟨g6,g7,g8,g9,g10,ih⟩:=uH a G h ex ey R t L (Lg ++ ext p ex ey q) (some (.tup [.int q.1.1,.int q.1.2])) (some (.str q.2)) f8 f9 f10 (fun z hz=>hL z (List.mem_cons_of_mem _ hz)) (by have:=rm p ex ey q;simp at hl ⊢;lia)
  refine ⟨g6,g7,g8,g9,g10,?_⟩
  rw [List.map_cons]
  refine cm (ρ1:=stB p h ex ey R t Lg (some (.tup [.int q.1.1,.int q.1.2])) (some (.str q.2)) e8 e9 e10) rfl b (ih.trans ?_)
  rw [List.append_assoc,List.flatMap_cons]
noncomputable def kN (p:Parts) (n:Nat) (q:Pt):Prop:=On p q.1.1 q.1.2/\q.2.length=n
theorem wD (x y:Int) {l:Str} (h:l = "r" \/ l = "u"):thX x l=nX x l/\thY y l=nY y l:=by
 unfold thX thY nX nY
 rcases h with rfl | rfl
 ·refine ⟨by simp,?_⟩
  rw [if_neg (by decide +kernel),if_pos rfl,Int.add_zero]
 ·refine ⟨?_,?_⟩
  ·rw [if_neg (by decide +kernel),if_neg (by decide +kernel),Int.add_zero]
  ·rw [if_pos (by decide +kernel),if_neg (by decide +kernel)]
theorem rn {m w:Nat} {p:Parts} (G:Good m w p) (ex ey:Int) (n:Nat) (q:Pt) (hq:kN p n q) {l:Str} (hl:l = "r" \/ l = "u"):∀ z ∈ fK p ex ey q l,kN p (n + 1) z:=by
 intro z hz
 unfold fK at hz
 split at hz
 ·rename_i hc
  rw [List.mem_singleton] at hz
  subst hz
  obtain ⟨tx,ty⟩:=wD q.1.1 q.1.2 hl
  refine ⟨?_,?_⟩
  ·show On p (thX q.1.1 l) (thY q.1.2 l)
   rw [tx,ty]
   exact lr G hq.1 l (by lia)
  ·show (q.2 ++ l).length=n + 1
   have:(q.2 ++ l).length=q.2.length + l.length:=by show (q.2.cps ++ l.cps).size=_;rw [Array.size_append];rfl
   rw [this,hq.2]
   rcases hl with rfl | rfl <;> rfl
 ·cases hz
theorem rp {m w:Nat} {p:Parts} (G:Good m w p) (ex ey:Int) (n:Nat) (R:List Pt) (hR:∀ q ∈ R,kN p n q):∀ z ∈ R.flatMap (ext p ex ey),kN p (n + 1) z:=by
 intro z hz
 obtain ⟨q,hq,hz⟩:=List.mem_flatMap.mp hz
 rcases List.mem_append.mp hz with h | h
 ·exact rn G ex ey n q (hR q hq) (.inl rfl) z h
 ·exact rn G ex ey n q (hR q hq) (.inr rfl) z h
noncomputable def stA (p:Parts) (h:Option D) (ex ey:Int) (R:List Pt) (t e5 e6 e7 e8 e9 e10:Option D):ae:=[some p.d,h,some (.tup [.int ex,.int ey]),some (.lst .f (R.map prD)),t,e5,e6,e7,e8,e9,e10]
noncomputable abbrev gbA (a:Ads):ae->FOut:=(ao (aq 5 (bd af))
 (ao (bH (aJ (aa 3)) (bw [6,7]) (gbQ a))
 (fun ρ=>(aq 3 (fFz (aa 5))) (frzAt 5 ρ))))
theorem lP (L:List Pt):(L.map prD).map D.asF=L.map prD:=by rw [List.map_map];rfl
theorem zq (a:Ads) {m w:Nat} {p:Parts} (G:Good m w p) (h:Option D) (ex ey:Int) (R:List Pt) (n:Nat) (hn:n < 400) (hR:∀ q ∈ R,kN p n q) (hl:R.length < 400) (t e5 e6 e7 e8 e9 e10:Option D) :
    ∃ e5' e6' e7' e8' e9' e10',gbA a (stA p h ex ey R t e5 e6 e7 e8 e9 e10)=.nx (stA p h ex ey (R.flatMap (ext p ex ey)) t e5' e6' e7' e8' e9' e10'):=by
 obtain ⟨g6,g7,g8,g9,g10,lp⟩:=uH a G h ex ey (some (.lst .f (R.map prD))) t R [] e6 e7 e8 e9 e10 (fun q hq=>⟨(hR q hq).1,by rw [(hR q hq).2];lia⟩) (by simp;lia)
 have fi:aJ (aa 3) (stB p h ex ey (some (.lst .f (R.map prD))) t [] e6 e7 e8 e9 e10)=.ok (R.map prD):=by
  unfold aJ
  rw [b5 3 _ _ rfl,bok]
  show (if _ then _ else bE (some ((R.map prD).map D.asF)))=_
  rw [if_neg (ntb rfl),lP]
  rfl
 refine ⟨some (.lst .f ((R.flatMap (ext p ex ey)).map prD)),g6,g7,g8,g9,g10,aB (ρ':=stB p h ex ey (some (.lst .f (R.map prD))) t [] e6 e7 e8 e9 e10) ?_ (aB (bu fi lp) ?_)⟩
 ·unfold stA stB
  show _=FOut.nx [some p.d,h,some (.tup [.int ex,.int ey]),some (.lst .f (R.map prD)),t,some (.lst .o []),e6,e7,e8,e9,e10]
  (repeat' first  | sizeOf_list_dec)
 ·rw [List.nil_append]
  show aq 3 (fFz (aa 5)) (frzAt 5 (stB p h ex ey (some (.lst .f (R.map prD))) t (R.flatMap (ext p ex ey)) g6 g7 g8 g9 g10))=_
  have fr:frzAt 5 (stB p h ex ey (some (.lst .f (R.map prD))) t (R.flatMap (ext p ex ey)) g6 g7 g8 g9 g10)=[some p.d,h,some (.tup [.int ex,.int ey]),some (.lst .f (R.map prD)),t,some (.lst .f ((R.flatMap (ext p ex ey)).map prD)),g6,g7,g8,g9,g10]:=by
   unfold frzAt stB
   show List.set _ 5 (some (D.fz (.lst .o ((R.flatMap (ext p ex ey)).map prD))))=_
   rw [aE,nQ]
   rfl
  rw [fr]
  have fz:(D.lst .f ((R.flatMap (ext p ex ey)).map prD)).fz=.lst .f ((R.flatMap (ext p ex ey)).map prD):=by rw [aE,nQ]
  unfold stA
  (repeat' first | (with_reducible apply fz) | sizeOf_list_dec)
theorem uI (a:Ads) {m w:Nat} {p:Parts} (G:Good m w p) (h:Option D) (ex ey:Int):∀ (k i n:Nat) (R:List Pt) (t e5 e6 e7 e8 e9 e10:Option D),n + k <= 8->(∀ q ∈ R,kN p n q)->R.length <= 2 ^ n →
    ∃ t' e5' e6' e7' e8' e9' e10',bv (av 4) (gbA a) ((List.range' i k).map fun (j:Nat)=>D.int (0 + (j:Int))) (stA p h ex ey R t e5 e6 e7 e8 e9 e10)=.nx (stA p h ex ey (bfs p ex ey k R) t' e5' e6' e7' e8' e9' e10')/\(∀ q ∈ bfs p ex ey k R,kN p (n + k) q)/\(bfs p ex ey k R).length <= 2 ^ (n + k)
 | 0,i,n,R,t,e5,e6,e7,e8,e9,e10,_,h1,h2=>⟨t,e5,e6,e7,e8,e9,e10,rfl,h1,h2⟩
 | k + 1,i,n,R,t,e5,e6,e7,e8,e9,e10,hn,h1,h2=>by
  have hp:2 ^ n <= 2 ^ 8:=Nat.pow_le_pow_right (by decide) (by lia)
  obtain ⟨f5,f6,f7,f8,f9,f10,b⟩:=zq a G h ex ey R n (by lia) h1 (by lia) (some (.int (0 + (i:Int)))) e5 e6 e7 e8 e9 e10
  obtain ⟨t',g5,g6,g7,g8,g9,g10,ih,h3,h4⟩:=uI a G h ex ey k (i + 1) (n + 1) (R.flatMap (ext p ex ey)) (some (.int (0 + (i:Int)))) f5 f6 f7 f8 f9 f10 (by lia) (rp G ex ey n R h1) (by have:=ma p ex ey R;rw [Nat.pow_succ];lia)
  refine ⟨t',g5,g6,g7,g8,g9,g10,?_,?_,?_⟩
  ·rw [List.range'_succ,List.map_cons]
   exact cm (js (by show 4 < 11;decide) rfl) b ih
  ·rw [show n + (k + 1)=n + 1 + k by lia];exact h3
  ·rw [show n + (k + 1)=n + 1 + k by lia];exact h4
noncomputable def dO (d:Int × Int) (ps:List (Int × Int)):Int × Int:=(ps.getLast?).getD d
theorem sE (d q:Int × Int) (ps:List (Int × Int)):dO d (q::ps)=dO q ps:=by
 unfold dO
 cases ps with
 | nil=>rfl
 | cons r ps=>rw [List.getLast?_cons_cons];rw [List.getLast?_eq_some_getLast (by simp)];rfl
theorem ju (p:Parts) (l:Str) (ls:List Str) (x y:Int):go p (l::ls) x y=if aW p x y l=0 then none else match go p ls (nX x l) (nY y l) with
    | some (ps,w)=>some ((nX x l,nY y l)::ps,aW p x y l * w)
    | none=>none:=rfl
theorem rz (p:Parts) (l:Str):∀ (ls:List Str) (x y:Int) (ps:List (Int × Int)) (v:Int),go p ls x y=some (ps,v)->aW p (dO (x,y) ps).1 (dO (x,y) ps).2 l ≠ 0 →
    go p (ls ++ [l]) x y=some (ps ++ [(nX (dO (x,y) ps).1 l,nY (dO (x,y) ps).2 l)],v * aW p (dO (x,y) ps).1 (dO (x,y) ps).2 l)
 | [],x,y,ps,v,h,hs=>by
  have:([],1)=(ps,v):=Option.some.inj h
  obtain ⟨rfl,rfl⟩:=Prod.mk.inj this
  have hs':aW p x y l ≠ 0:=hs
  rw [List.nil_append,ju,if_neg hs',Int.one_mul]
  show some ([(nX x l,nY y l)],aW p x y l * 1)=_
  rw [Int.mul_one]
  rfl
 | l0::ls,x,y,ps,v,h,hs=>by
  rw [ju] at h
  by_cases h0:aW p x y l0=0
  ·rw [if_pos h0] at h;cases h
  ·rw [if_neg h0] at h
   cases hg:go p ls (nX x l0) (nY y l0) with
   | none=>rw [hg] at h;cases h
   | some q =>
    obtain ⟨qs,u⟩:=q
    rw [hg] at h
    have h2:((nX x l0,nY y l0)::qs,aW p x y l0 * u)=(ps,v):=Option.some.inj h
    obtain ⟨rfl,rfl⟩:=Prod.mk.inj h2
    rw [sE] at hs ⊢
    have ih:=rz p l ls (nX x l0) (nY y l0) qs u hg hs
    rw [List.cons_append,ju,if_neg h0,ih]
    show some _=some _
    rw [Int.mul_assoc]
    rfl
theorem vX (a b:Str):dF (a ++ b)=dF a ++ dF b:=by
 unfold dF
 show ((a.cps ++ b.cps).toList.map _)=_
 rw [Array.toList_append,List.map_append]
theorem zr:dF "r" = [("r" : Str)]:=by decide +kernel
theorem zt:dF "u" = [("u" : Str)]:=by decide +kernel
structure Gone (p:Parts) (s:Int) (q:Pt) (v:Int):Prop where
 g:∃ ps,go p (dF q.2) 0 s=some (ps,v)/\dO (0,s) ps=q.1
 a:asc q.2=true
noncomputable def wt (p:Parts) (s:Int) (w:Str):Int:=match go p (dF w) 0 s with
 | some (_,v)=>v
 | none=>0
theorem vY {a b:Str} (h1:asc a=true) (h2:asc b=true):asc (a ++ b)=true:=by
 unfold asc at *
 show ((a.cps ++ b.cps).all _)=true
 rw [Array.all_append,h1,h2];rfl
theorem Gone.ext {p:Parts} {s:Int} {q:Pt} {v:Int} (h:Gone p s q v) {l:Str} (hl:l = "r" \/ l = "u") (hs:aW p q.1.1 q.1.2 l ≠ 0):Gone p s ((nX q.1.1 l,nY q.1.2 l),q.2 ++ l) (v * aW p q.1.1 q.1.2 l):=by
 obtain ⟨ps,e,en⟩:=h.g
 have hll:dF l=[l]:=by rcases hl with rfl | rfl <;> first | exact zr | exact zt
 have:=rz p l (dF q.2) 0 s ps v e (by rw [en];exact hs)
 rw [en] at this
 refine ⟨⟨ps ++ [(nX q.1.1 l,nY q.1.2 l)],?_,?_⟩,vY h.a (by rcases hl with rfl | rfl <;> decide +kernel)⟩
 ·rw [vX,hll];exact this
 ·unfold dO;simp
noncomputable def bL (p:Parts) (s ex ey:Int):Nat->List Pt
 | 0=>[((0,s), "")]
 | t + 1=>(bL p s ex ey t).flatMap (ext p ex ey)
theorem qh (p:Parts) (s ex ey:Int):∀ (k i:Nat),bfs p ex ey k (bL p s ex ey i)=bL p s ex ey (i + k)
 | 0,i=>rfl
 | k + 1,i=>by
  show bfs p ex ey k (bL p s ex ey (i + 1))=_
  rw [qh p s ex ey k (i + 1),show i + 1 + k=i + (k + 1) by lia]
theorem oJ {m w:Nat} {p:Parts} (G:Good m w p) (s ex ey:Int) (o:On p 0 s):∀ (t:Nat),∀ q ∈ bL p s ex ey t,On p q.1.1 q.1.2/\∃ v,Gone p s q v
 | 0,q,hq=>by
  have:q=(((0,s), ""):Pt):=by simpa [bL] using hq
  subst this
  exact ⟨o,1,⟨[],rfl,rfl⟩,(by decide +kernel:asc "" = true)⟩
 | t + 1,z,hz=>by
  obtain ⟨q,hq,hz⟩:=List.mem_flatMap.mp hz
  obtain ⟨oq,v,gq⟩:=oJ G s ex ey o t q hq
  have one:∀ l:Str,(l = "r" \/ l = "u")->z ∈ fK p ex ey q l->On p z.1.1 z.1.2/\∃ v,Gone p s z v:=by
   intro l hl hz
   unfold fK at hz
   split at hz
   ·rename_i hc
    rw [List.mem_singleton] at hz
    subst hz
    obtain ⟨tx,ty⟩:=wD q.1.1 q.1.2 hl
    have hs:aW p q.1.1 q.1.2 l ≠ 0:=by lia
    refine ⟨?_,v * aW p q.1.1 q.1.2 l,?_⟩
    ·show On p (thX q.1.1 l) (thY q.1.2 l)
     rw [tx,ty];exact lr G oq l hs
    ·show Gone p s ((thX q.1.1 l,thY q.1.2 l),q.2 ++ l) _
     rw [tx,ty];exact gq.ext hl hs
   ·cases hz
  rcases List.mem_append.mp hz with h | h
  ·exact one "r" (.inl rfl) h
  ·exact one "u" (.inr rfl) h
open PySem.Spec in
theorem uJ:∀ (a b x y:List Nat),a.length=b.length->ltCps a b=true->ltCps (a ++ x) (b ++ y)=true
 | [],[],_,_,_,h=>by cases h
 | [],_::_,_,_,hl,_=>by cases hl
 | _::_,[],_,_,hl,_=>by cases hl
 | c::a,d::b,x,y,hl,h=>by
  have h':(decide (c < d) || (c == d && ltCps a b))=true:=h
  show (decide (c < d) || (c == d && ltCps (a ++ x) (b ++ y)))=true
  by_cases hc:c < d
  ·simp [hc]
  ·have e:c=d/\ltCps a b=true:=by simpa [hc] using h'
   rw [uJ a b x y (by simpa using hl) e.2]
   simp [e.1]
open PySem.Spec in
theorem rA:∀ (a:List Nat) (c d:Nat),c < d->ltCps (a ++ [c]) (a ++ [d])=true
 | [],c,d,h=>by show (decide (c < d) || (c == d && ltCps [] []))=true;simp [h]
 | e::a,c,d,h=>by
  show (decide (e < e) || (e == e && ltCps (a ++ [c]) (a ++ [d])))=true
  rw [rA a c d h];simp
noncomputable def ltS (a b:Str):Prop:=PySem.Spec.ltCps a.cps.toList b.cps.toList=true
theorem xI {a b:Str} (x y:Str) (hl:a.length=b.length) (h:ltS a b):ltS (a ++ x) (b ++ y):=by
 unfold ltS at *
 show PySem.Spec.ltCps (a.cps ++ x.cps).toList (b.cps ++ y.cps).toList=true
 rw [Array.toList_append,Array.toList_append]
 exact uJ _ _ _ _ (by simpa [Str.length] using hl) h
theorem zu (a:Str):ltS (a ++ ("r" : Str)) (a ++ ("u" : Str)):=by
 unfold ltS
 show PySem.Spec.ltCps (a.cps ++ (Str.ofString "r").cps).toList (a.cps ++ (Str.ofString "u").cps).toList=true
 rw [Array.toList_append,Array.toList_append,show (Str.ofString "r").cps.toList=[114] by decide +kernel,show (Str.ofString "u").cps.toList=[117] by decide +kernel]
 exact rA _ _ _ (by decide)
theorem jb {p:Parts} {ex ey:Int} {q z:Pt} {l:Str} (h:z ∈ fK p ex ey q l):z.2=q.2 ++ l:=by
 unfold fK at h
 split at h
 ·rw [List.mem_singleton] at h;subst h;rfl
 ·cases h
theorem qi {p:Parts} {ex ey:Int} {q z:Pt} (h:z ∈ ext p ex ey q):∃ l:Str,z.2=q.2 ++ l:=by
 rcases List.mem_append.mp h with h | h
 ·exact ⟨_,jb h⟩
 ·exact ⟨_,jb h⟩
theorem rB (p:Parts) (ex ey:Int) (q:Pt) (l:Str):(fK p ex ey q l).Pairwise fun a b=>ltS a.2 b.2:=by
 unfold fK;split <;> simp
theorem jv {m w:Nat} {p:Parts} (G:Good m w p) (s ex ey:Int) (o:On p 0 s):∀ t:Nat,(bL p s ex ey t).Pairwise (fun a b=>ltS a.2 b.2)/\∀ q ∈ bL p s ex ey t,kN p t q
 | 0=>⟨by simp [bL],fun q hq=>by
  have:q=(((0,s), ""):Pt):=by simpa [bL] using hq
  subst this;exact ⟨o,rfl⟩⟩
 | t + 1=>by
  obtain ⟨h1,h2⟩:=jv G s ex ey o t
  refine ⟨?_,rp G ex ey t _ h2⟩
  show ((bL p s ex ey t).flatMap (ext p ex ey)).Pairwise _
  rw [List.pairwise_flatMap]
  refine ⟨fun q _=>?_,?_⟩
  ·unfold ext
   rw [List.pairwise_append]
   refine ⟨rB _ _ _ _ _,rB _ _ _ _ _,fun x hx y hy=>?_⟩
   rw [jb hx,jb hy]
   exact zu _
  ·refine List.Pairwise.imp_of_mem (fun {a b} ha hb hab x hx y hy=>?_) h1
   obtain ⟨l,e⟩:=qi hx
   obtain ⟨l',e'⟩:=qi hy
   rw [e,e']
   exact xI _ _ (by rw [(h2 a ha).2,(h2 b hb).2]) hab
theorem oK:∀ (l:List Str),l.Pairwise ltS->jM l=true
 | [],_=>rfl
 | [_],_=>rfl
 | a::b::r,h=>by
  show (PySem.Spec.ltCps a.cps.toList b.cps.toList && jM (b::r))=true
  rw [oK (b::r) (List.pairwise_cons.mp h).2,show PySem.Spec.ltCps a.cps.toList b.cps.toList=true from (List.pairwise_cons.mp h).1 b List.mem_cons_self]
  rfl
theorem zv (x y u v:Int):dEq (.tup [.int x,.int y]) (.tup [.int u,.int v])=.ok (.bl (decide (x=u) && decide (y=v))):=by
 have e:a0 4 (.tup [.int x,.int y]) (.tup [.int u,.int v])=some (decide (x=u) && (decide (y=v) && true)):=rfl
 unfold dEq
 rw [if_pos ⟨rfl,rfl⟩,e,Bool.and_true]
theorem me (cap:List (Option D)) (ex ey:Int) (hc:cap=[some (.tup [.int ex,.int ey])]):∀ (L:List Pt) (e1 e2:Option D) (acc:List D),acc.length + L.length <= 1000 →
    bF (bw [0,1]) (ft2 dEq (aa 0) (aa 2)) (aa 1) (L.map prD) (e1::e2::cap) acc=.ok (acc ++ ((L.filter fun q=>q.1=(ex,ey)).map fun q=>D.str q.2))
 | [],_,_,acc,_=>by show Res.ok acc=Res.ok (acc ++ []);rw [List.append_nil]
 | q::L,e1,e2,acc,hl=>by
  subst hc
  have hz:¬ sizeLine <= acc.length:=by
   have:(1000:Nat) < sizeLine:=by decide
   simp at hl;lia
  obtain ⟨⟨x,y⟩,wk⟩:=q
  rw [List.map_cons]
  unfold bF
  rw [show bw [0,1] (prD ((x,y),wk)) (e1::e2::[some (.tup [.int ex,.int ey])])=.ok [some (.tup [.int x,.int y]),some (.str wk),some (.tup [.int ex,.int ey])] from rfl,bok]
  have tt:ft2 dEq (aa 0) (aa 2) [some (.tup [.int x,.int y]),some (.str wk),some (.tup [.int ex,.int ey])]=.ok (decide (x=ex) && decide (y=ey)):=by
   have:=zv x y ex ey
   (repeat' first | (with_reducible apply this) | sizeOf_list_dec)
  rw [tt,bok]
  by_cases h:x=ex/\y=ey
  ·rw [if_pos (by simp [h])]
   rw [show aa 1 [some (.tup [.int x,.int y]),some (.str wk),some (.tup [.int ex,.int ey])]=.ok (.str wk) from rfl,bok,if_neg (fun z=>z.elim (ntb rfl) hz)]
   rw [me _ ex ey rfl L _ _ (acc ++ [D.str wk]) (by simp at hl ⊢;lia)]
   rw [List.filter_cons_of_pos (by simp [h]),List.map_cons,List.append_assoc]
   rfl
  ·rw [if_neg (by simpa using h)]
   rw [me _ ex ey rfl L _ _ acc (by simp at hl ⊢;lia)]
   rw [List.filter_cons_of_neg (by simpa using h)]
theorem m7:∀ L:List Str,gr (L.map D.str)=some L
 | []=>rfl
 | s::L=>by show (gr (L.map D.str)).map (s::·)=_;rw [m7 L];rfl
theorem gN:∀ L:List Str,D.fzs (L.map D.str)=L.map D.str
 | []=>ax
 | s::L=>by rw [List.map_cons,am,bI,gN L]
noncomputable def fy (p:Parts) (s ex ey:Int) (T:Nat):List Str:=((bL p s ex ey T).filter fun q=>q.1=(ex,ey)).map fun q=>q.2
theorem xJ (a:Ads) {m w:Nat} {p:Parts} (G:Good m w p) (h5:m <= 5) (s ex ey:Nat) (hs:s <= ey) (hex:ex < p.cols) (hey:ey < p.rows) :
    gw a [p.d,.tup [.int 0,.int (s:Int)],.tup [.int (ex:Int),.int (ey:Int)]]=.ok (.lst .o ((fy p s ex ey (ex + (ey - s))).map D.str)):=by
 have c1:=G.c1
 have r1:=G.r1
 have o:On p 0 (s:Int):=⟨⟨by lia,by lia⟩,by lia,by lia⟩
 obtain ⟨t',e5,e6,e7,e8,e9,e10,lp,h3,h4⟩:=uI a G (some (.tup [.int 0,.int (s:Int)])) ex ey (ex + (ey - s)) 0 0 [((0,(s:Int)), "")] none none none none none none none (by lia) (fun q hq=>by
  have:q=(((0,(s:Int)), ""):Pt):=by simpa using hq
  subst this;exact ⟨o,rfl⟩) (by simp)
 have hb:bfs p ex ey (ex + (ey - s)) [((0,(s:Int)), "")]=bL p s ex ey (ex + (ey - s)):=by
  have:=qh p s ex ey (ex + (ey - s)) 0
  rwa [Nat.zero_add] at this
 rw [hb] at lp h4
 have hlen:(bL p s ex ey (ex + (ey - s))).length <= 256:=by
  have:2 ^ (0 + (ex + (ey - s))) <= 2 ^ 8:=Nat.pow_le_pow_right (by decide) (by lia)
  lia
 have hr:a7 0 (ex + (ey - s))=(List.range' 0 (ex + (ey - s))).map fun (j:Nat)=>D.int (0 + (j:Int)):=by rw [a7,List.range_eq_range']
 have mx:k8 [.int 0,.int ((ey:Int) - (s:Int))]=.ok (.int ((ey:Int) - (s:Int))):=by
  show Res.ok (D.int (if (ey:Int) - (s:Int) > 0 then (ey:Int) - (s:Int) else 0))=_
  congr 2
  split <;> lia
 refine dD (ρ:=[some p.d,some (.tup [.int 0,.int (s:Int)]),some (.tup [.int (ex:Int),.int (ey:Int)]),none,none,none,none,none,none,none,none]) rfl ?_
 unfold mQ
 have fzh:(D.tup [.int 0,.int (s:Int)]).fz=.tup [.int 0,.int (s:Int)]:=by rw [bp,am,am,ax,aw,aw]
 refine aB (ρ':=stA p (some (.tup [.int 0,.int (s:Int)])) ex ey [((0,(s:Int)), "")] none none none none none none none) ?_ (aB (bu (items:=a7 0 (ex + (ey - s))) (eh ?_ (by lia)) (by rw [hr];exact lp)) ?_)
 ·have fz2:(D.lst .o [.tup [.tup [.int 0,.int (s:Int)],.str ""]]).fz=.lst .f [.tup [.tup [.int 0,.int (s:Int)],.str ""]]:=by rw [aE,am,ax,bp,am,am,ax,fzh,bI]
  show _=FOut.nx [some p.d,some (.tup [.int 0,.int (s:Int)]),some (.tup [.int (ex:Int),.int (ey:Int)]),some (.lst .f [.tup [.tup [.int 0,.int (s:Int)],.str ""]]),none,none,none,none,none,none,none]
  (repeat' first | (with_reducible apply fzh) | (with_reducible apply fz2) | sizeOf_list_dec)
 ·rw [show (((ex + (ey - s):Nat)):Int)=(ex:Int) - 0 + ((ey:Int) - (s:Int)) by lia]
  unfold stA
  (repeat' first | (with_reducible apply mx) | sizeOf_list_dec)
 ·have fi:aJ (aa 3) (stA p (some (.tup [.int 0,.int (s:Int)])) ex ey (bL p s ex ey (ex + (ey - s))) t' e5 e6 e7 e8 e9 e10)=.ok ((bL p s ex ey (ex + (ey - s))).map prD):=by
     unfold aJ
     rw [b5 3 _ _ rfl,bok]
     show (if _ then _ else bE (some (((bL p s ex ey (ex + (ey - s))).map prD).map D.asF)))=_
     rw [if_neg (ntb rfl),lP]
     rfl
  have cp:aL 2 [2] (aJ (aa 3)) (bw [0,1]) (ft2 dEq (aa 0) (aa 2)) (aa 1) (stA p (some (.tup [.int 0,.int (s:Int)])) ex ey (bL p s ex ey (ex + (ey - s))) t' e5 e6 e7 e8 e9 e10)=.ok (.lst .o ((fy p s ex ey (ex + (ey - s))).map D.str)):=by
   unfold aL
   rw [fi,bok]
   have:=me [some (.tup [.int (ex:Int),.int (ey:Int)])] ex ey rfl (bL p s ex ey (ex + (ey - s))) none none [] (by simp;lia)
   show (match bF (bw [0,1]) (ft2 dEq (aa 0) (aa 2)) (aa 1) ((bL p s ex ey (ex + (ey - s))).map prD) (none::none::[some (.tup [.int (ex:Int),.int (ey:Int)])]) [] with
    | .ok ds=>Res.ok (D.lst .o ds)
    | _=>.bad)=_
   rw [this]
   unfold fy
   rw [List.map_map,List.nil_append]
   rfl
  have so:gF [.lst .o ((fy p s ex ey (ex + (ey - s))).map D.str)]=.ok (.lst .o ((fy p s ex ey (ex + (ey - s))).map D.str)):=by
   have pw:(fy p s ex ey (ex + (ey - s))).Pairwise ltS:=by
    unfold fy
    exact List.Pairwise.map _ (fun a b h=>h) ((jv G s ex ey o (ex + (ey - s))).1.filter _)
   show (match some (D.fzs ((fy p s ex ey (ex + (ey - s))).map D.str)) with
    | some ys=>match gr ys with
     | some ss=>if D.isL (.lst .o ((fy p s ex ey (ex + (ey - s))).map D.str))=true/\jM ss=true/\ss.length <= 100000 then Res.ok (D.lst .o (ss.map D.str)) else .bad
     | none=>.bad
    | none=>.bad)=_
   rw [gN]
   show (match gr ((fy p s ex ey (ex + (ey - s))).map D.str) with
       | some ss=>if D.isL (.lst .o ((fy p s ex ey (ex + (ey - s))).map D.str))=true/\jM ss=true/\ss.length <= 100000 then Res.ok (D.lst .o (ss.map D.str)) else .bad
       | none=>.bad)=_
   rw [m7]
   refine if_pos ⟨rfl,oK _ pw,?_⟩
   unfold fy
   rw [List.length_map]
   exact Nat.le_trans (List.length_filter_le _ _) (by lia)
  refine iq (sw (ce cp gU) so) (ntb rfl)
theorem sF {α:Type} {gt:D->ae->Res ae} {ft:ae->Res Bool} {fe:ae->Res D} (f:α->D) (mk:α->ae) (t:α->Bool) (v:α->D) (Q:ae->Prop):∀ (L:List α) (ρ:ae) (acc:List D),Q ρ →
    (∀ x ∈ L,(∀ ρ,Q ρ->gt (f x) ρ=.ok (mk x))/\Q (mk x)/\ft (mk x)=.ok (t x)/\(t x=true->fe (mk x)=.ok (v x)/\(v x).tag ≠ .b))->acc.length + L.length <= 1000 →
    bF gt ft fe (L.map f) ρ acc=.ok (acc ++ (L.filter t).map v)
 | [],_,acc,_,_,_=>by show Res.ok acc=Res.ok (acc ++ []);rw [List.append_nil]
 | x::L,ρ,acc,q,h,hl=>by
  have hz:¬ sizeLine <= acc.length:=by
   have:(1000:Nat) < sizeLine:=by decide
   simp at hl;lia
  obtain ⟨h1,h2,h3,h4⟩:=h x List.mem_cons_self
  have h':=fun y hy=>h y (List.mem_cons_of_mem _ hy)
  rw [List.map_cons]
  unfold bF
  rw [h1 ρ q,bok,h3,bok]
  cases hx:t x with
  | true =>
   obtain ⟨h5,h6⟩:=h4 hx
   rw [if_pos rfl,h5,bok,if_neg (fun z=>z.elim h6 hz),sF f mk t v Q L _ _ h2 h' (by simp at hl ⊢;lia),List.filter_cons_of_pos hx,List.map_cons,List.append_assoc]
   rfl
  | false=>rw [if_neg (by decide),sF f mk t v Q L _ _ h2 h' (by simp at hl ⊢;lia),List.filter_cons_of_neg (by simp [hx])]
theorem qj {α:Type} {own:Nat} {cap:List Nat} {fi:ae->Res (List D)} {gt:D->ae->Res ae} {ft:ae->Res Bool} {fe:ae->Res D} {ρ:ae} {L:List α} (f:α->D) (mk:α->ae) (t:α->Bool) (v:α->D) (Q:ae->Prop)
    (hi:fi ρ=.ok (L.map f)) (hq:Q (List.replicate own none ++ cap.map (bn ρ)))
    (h:∀ x ∈ L,(∀ ρ,Q ρ->gt (f x) ρ=.ok (mk x))/\Q (mk x)/\ft (mk x)=.ok (t x)/\(t x=true->fe (mk x)=.ok (v x)/\(v x).tag ≠ .b)) (hl:L.length <= 1000) :
    aL own cap fi gt ft fe ρ=.ok (.lst .o ((L.filter t).map v)):=by
 unfold aL
 rw [hi,bok,sF f mk t v Q L _ [] hq h (by simpa using hl)]
 rfl
theorem jw {α:Type} {own:Nat} {cap:List Nat} {fi:ae->Res (List D)} {gt:D->ae->Res ae} {fe:ae->Res D} {ρ:ae} {L:List α} (f:α->D) (mk:α->ae) (v:α->D) (Q:ae->Prop)
    (hi:fi ρ=.ok (L.map f)) (hq:Q (List.replicate own none ++ cap.map (bn ρ)))
    (h:∀ x ∈ L,(∀ ρ,Q ρ->gt (f x) ρ=.ok (mk x))/\Q (mk x)/\fe (mk x)=.ok (v x)/\(v x).tag ≠ .b) (hl:L.length <= 1000) :
    aL own cap fi gt a8 fe ρ=.ok (.lst .o (L.map v)):=by
 rw [qj f mk (fun _=>true) v Q hi hq (fun x hx=>⟨(h x hx).1,(h x hx).2.1,rfl,fun _=>(h x hx).2.2⟩) hl]
 congr 3
 exact List.filter_eq_self.mpr fun _ _=>rfl
noncomputable def cJ {α β:Type} (step:β->α->β ⊕ D):List α->β->β ⊕ D
 | [],b=>.inl b
 | x::L,b=>match step b x with
  | .inl b'=>cJ step L b'
  | .inr d=>.inr d
theorem vZ {α β:Type} {gt:D->ae->Res ae} {gb:ae->FOut} (f:α->D) (S:β->ae->Prop) (step:β->α->β ⊕ D):∀ (L:List α) (b:β) (ρ:ae),S b ρ →
    (∀ x ∈ L,∀ b ρ,S b ρ->∃ ρ1,gt (f x) ρ=.ok ρ1/\match step b x with
     | .inl b'=>∃ ρ2,gb ρ1=.nx ρ2/\S b' ρ2
     | .inr d=>gb ρ1=.rt d) →
    match cJ step L b with
    | .inl b'=>∃ ρ',bv gt gb (L.map f) ρ=.nx ρ'/\S b' ρ'
    | .inr d=>bv gt gb (L.map f) ρ=.rt d
 | [],b,ρ,s,_=>⟨ρ,rfl,s⟩
 | x::L,b,ρ,s,h=>by
  obtain ⟨ρ1,h1,h2⟩:=h x List.mem_cons_self b ρ s
  unfold cJ
  revert h2
  cases hs:step b x with
  | inl b' =>
   rintro ⟨ρ2,h2,s2⟩
   have ih:=vZ f S step L b' ρ2 s2 fun y hy=>h y (List.mem_cons_of_mem _ hy)
   show match cJ step L b' with
    | .inl b'=>∃ ρ',bv gt gb (f x::L.map f) ρ=.nx ρ'/\S b' ρ'
    | .inr d=>bv gt gb (f x::L.map f) ρ=.rt d
   revert ih
   cases cJ step L b' with
   | inl b2=>rintro ⟨ρ',e,s'⟩;exact ⟨ρ',cm h1 h2 e,s'⟩
   | inr d=>intro e;exact cm h1 h2 e
  | inr d=>intro h2;exact mZ h1 h2
theorem nR {α β:Type} (g:β->α->β):∀ (L:List α) (b:β),cJ (fun b x=>.inl (g b x)) L b=.inl (L.foldl g b)
 | [],_=>rfl
 | x::L,b=>nR g L (g b x)
theorem wa {α β:Type} {gt:D->ae->Res ae} {gb:ae->FOut} (f:α->D) (S:β->ae->Prop) (g:β->α->β) (L:List α) (b:β) (ρ:ae) (s:S b ρ)
    (h:∀ x ∈ L,∀ b ρ,S b ρ->∃ ρ1,gt (f x) ρ=.ok ρ1/\∃ ρ2,gb ρ1=.nx ρ2/\S (g b x) ρ2):∃ ρ',bv gt gb (L.map f) ρ=.nx ρ'/\S (L.foldl g b) ρ':=by
 have:=vZ (gt:=gt) (gb:=gb) f S (fun b x=>.inl (g b x)) L b ρ s h
 rw [nR] at this
 exact this
theorem rC {α:Type} (c:α->Option D):∀ (L:List α),cJ (fun (_:Unit) x=>match c x with | none=>.inl () | some d=>.inr d) L ()=(match L.findSome? c with | none=>.inl () | some d=>.inr d)
 | []=>rfl
 | x::L=>by
  unfold cJ
  rw [List.findSome?_cons]
  cases hc:c x with
  | none=>simp only [rC c L]
  | some d=>rfl
theorem qk {α:Type} {gt:D->ae->Res ae} {gb:ae->FOut} (f:α->D) (S:ae->Prop) (c:α->Option D) (L:List α) (ρ:ae) (s:S ρ)
    (h:∀ x ∈ L,∀ ρ,S ρ->∃ ρ1,gt (f x) ρ=.ok ρ1/\match c x with
     | none=>∃ ρ2,gb ρ1=.nx ρ2/\S ρ2
     | some d=>gb ρ1=.rt d) :
    match L.findSome? c with
    | none=>∃ ρ',bv gt gb (L.map f) ρ=.nx ρ'/\S ρ'
    | some d=>bv gt gb (L.map f) ρ=.rt d:=by
 have:=vZ (gt:=gt) (gb:=gb) f (fun (_:Unit)=>S) (fun (_:Unit) x=>match c x with | none=>.inl () | some d=>.inr d) L () ρ s (fun x hx _ ρ s=>by
  obtain ⟨ρ1,h1,h2⟩:=h x hx ρ s
  refine ⟨ρ1,h1,?_⟩
  revert h2
  cases c x <;> exact id)
 rw [rC] at this
 revert this
 cases L.findSome? c <;> exact id
theorem qM (ys:List D):jN ys=(List.range ys.length).map fun (j:Nat)=>D.tup [.int (j:Int),ys.getD j .non]:=by
 unfold jN
 apply List.ext_getElem?
 intro i
 simp only [List.getElem?_map,List.getElem?_zipIdx,List.getElem?_range']
 by_cases h:i < ys.length
 ·simp [h,List.getElem?_range]
 ·simp [h,List.getElem?_eq_none (show ys.length <= i by lia)]
theorem rD:∀ (l:List Bool),dU (l.map some)=some (l.all id)
 | []=>rfl
 | b::l=>by
  show (match dU (l.map some) with
   | some c=>some (b && c)
   | none=>none)=_
  rw [rD l];rfl
theorem rE {α:Type} (f:α->D) (d:D) (e:α->Bool) (L:List α) (h:∀ x ∈ L,a0 3 (f x) d=some (e x)):iK d (L.map f)=some (L.any e):=by
 have:((L.map f).map fun y=>(a0 3 y d).map (!·))=(L.map fun x=>!e x).map some:=by
  rw [List.map_map,List.map_map]
  refine List.map_congr_left fun x hx=>?_
  show (a0 3 (f x) d).map (!·)=some (!e x)
  rw [h x hx];rfl
 unfold iK
 rw [this,rD]
 show some (!_)=_
 congr 1
 rw [List.all_map,List.any_eq_not_all_not]
 rfl
theorem uK (k:Int) (L:List Int):iK (.int k) (L.map D.int)=some (decide (k ∈ L)):=by
 rw [rE D.int (.int k) (fun x=>decide (x=k)) L (fun x _=>rfl)]
 congr 1
 rw [Bool.eq_iff_iff]
 simp
theorem zw (k:Int) (L:List Int) (neg:Bool):dIn neg (.int k) (.lst .f (L.map D.int))=.ok (.bl (neg != decide (k ∈ L))):=by
 show (match iK (.int k) (L.map D.int) with
  | some b=>Res.ok (D.bl (neg != b))
  | none=>.bad)=_
 rw [uK]
theorem wb (q:Int × Int) (L:List (Int × Int)):iK (plD q) (L.map plD)=some (decide (q ∈ L)):=by
 rw [rE plD (plD q) (fun x=>decide (x=q)) L (fun x _=>by
  obtain ⟨x1,x2⟩:=x
  obtain ⟨q1,q2⟩:=q
  show some (decide (x1=q1) && (decide (x2=q2) && true))=_
  simp [Prod.ext_iff])]
 congr 1
 rw [Bool.eq_iff_iff]
 simp
theorem wE (q:Int × Int) (L:List (Int × Int)) (t:Tg) (neg:Bool):dIn neg (plD q) (.lst t (L.map plD))=.ok (.bl (neg != decide (q ∈ L))):=by
 show (match iK (plD q) (L.map plD) with
  | some b=>Res.ok (D.bl (neg != b))
  | none=>.bad)=_
 rw [wb]
theorem jx {n:Nat} {F:List D->Res D} {fa:ae->Res (List D)} {ρ:ae} {ds ds':List D} {d:D} (h:fa ρ=.ok ds) (hn:ds.length=n) (hz:D.fzs ds=ds') (hF:F ds'=.ok d) (ha:(nb ds=true/\d.tag ≠ .b) \/ d.atom=true):bU n F fa ρ=.ok d:=by
 unfold bU
 rw [h,bok,if_pos hn]
 have:fA F ds=.ok d:=by
  unfold fA
  rw [hz,hF]
  show (if _ then _ else _)=_
  rw [if_pos ha]
 rw [this]
theorem m8 {α β:Type} {gt:D->ae->Res ae} {gb:ae->FOut} (f:α->D) (S:List α->β->ae->Prop) (step:β->α->β ⊕ D) (full:List α)
    (h:∀ (L1:List α) (x:α) (L2:List α),L1 ++ x::L2=full->∀ b ρ,S L1 b ρ->∃ ρ1,gt (f x) ρ=.ok ρ1/\match step b x with
     | .inl b'=>∃ ρ2,gb ρ1=.nx ρ2/\S (L1 ++ [x]) b' ρ2
     | .inr d=>gb ρ1=.rt d):∀ (L2 L1:List α) (b:β) (ρ:ae),L1 ++ L2=full->S L1 b ρ →
    match cJ step L2 b with
    | .inl b'=>∃ ρ',bv gt gb (L2.map f) ρ=.nx ρ'/\S full b' ρ'
    | .inr d=>bv gt gb (L2.map f) ρ=.rt d
 | [],L1,b,ρ,e,s=>⟨ρ,rfl,by rw [List.append_nil] at e;exact e ▸ s⟩
 | x::L,L1,b,ρ,e,s=>by
  obtain ⟨ρ1,h1,h2⟩:=h L1 x L e b ρ s
  unfold cJ
  revert h2
  cases hs:step b x with
  | inl b' =>
   rintro ⟨ρ2,h2,s2⟩
   have ih:=m8 f S step full h L (L1 ++ [x]) b' ρ2 (by rw [List.append_assoc];exact e) s2
   show match cJ step L b' with
    | .inl b'=>∃ ρ',bv gt gb (f x::L.map f) ρ=.nx ρ'/\S full b' ρ'
    | .inr d=>bv gt gb (f x::L.map f) ρ=.rt d
   revert ih
   cases cJ step L b' with
   | inl b2=>rintro ⟨ρ',e,s'⟩;exact ⟨ρ',cm h1 h2 e,s'⟩
   | inr d=>intro e;exact cm h1 h2 e
  | inr d=>intro h2;exact mZ h1 h2
theorem Dz {α:Type} {gt:D->ae->Res ae} {gb:ae->FOut} (f:α->D) (S:List α->ae->Prop) (full:List α) (ρ:ae) (s:S [] ρ)
    (h:∀ (L1:List α) (x:α) (L2:List α),L1 ++ x::L2=full->∀ ρ,S L1 ρ->∃ ρ1,gt (f x) ρ=.ok ρ1/\∃ ρ2,gb ρ1=.nx ρ2/\S (L1 ++ [x]) ρ2) :
    ∃ ρ',bv gt gb (full.map f) ρ=.nx ρ'/\S full ρ':=by
 have:=m8 (gt:=gt) (gb:=gb) f (fun L (_:Unit)=>S L) (fun _ _=>.inl ()) full (fun L1 x L2 e _ ρ s=>h L1 x L2 e ρ s) full [] () ρ rfl s
 rw [nR (fun (_:Unit) _=>())] at this
 exact this
noncomputable abbrev Row:=List (Str × Nat)
noncomputable def aD (r:Row):List D:=(r.map (·.1)).map D.str
noncomputable def cf (r:Row):List D:=(r.map fun q=>(q.2:Int)).map D.int
noncomputable def bf (r:Row):D:=.tup [.lst .f (aD r),.lst .f (cf r)]
noncomputable def lkW (p:Parts) (s e:Int):List Str:=if s <= e then fy p s ((p.cols - 1:Nat):Int) e (p.cols - 1 + (e.toNat - s.toNat)) else []
noncomputable def lkL (p:Parts) (s:Int):List (List Str):=p.ends.map (lkW p s)
theorem ql (p:Parts) (s ex ey:Int):∀ t,(bL p s ex ey t).length <= 2 ^ t
 | 0=>by simp [bL]
 | t + 1=>by
  have:=ma p ex ey (bL p s ex ey t)
  have:=ql p s ex ey t
  show ((bL p s ex ey t).flatMap _).length <= _
  rw [Nat.pow_succ];omega
theorem xK {m w:Nat} {p:Parts} (G:Good m w p) (h4:m <= 4) (s e:Int) (he:e < p.rows) (hs:0 <= s):(lkW p s e).length <= 64:=by
 have c1:=G.c1
 have r1:=G.r1
 unfold lkW
 split
 ·unfold fy
  rw [List.length_map]
  have h1:=ql p s ((p.cols - 1:Nat):Int) e (p.cols - 1 + (e.toNat - s.toNat))
  have h2:2 ^ (p.cols - 1 + (e.toNat - s.toNat)) <= 2 ^ 6:=Nat.pow_le_pow_right (by decide) (by omega)
  have h3:=List.length_filter_le (fun q:Pt=>decide (q.1=(((p.cols - 1:Nat):Int),e))) (bL p s ((p.cols - 1:Nat):Int) e (p.cols - 1 + (e.toNat - s.toNat)))
  omega
 ·simp
theorem zx {m w:Nat} {p:Parts} (G:Good m w p) (h8:m <= 8) (s e:Int) (hs:0 <= s) (hs2:s < p.rows) (he:e < p.rows) (x:Str) (hx:x ∈ lkW p s e) :
    asc x=true/\x.length < 900/\∃ ps v,due p 0 s x=some (ps,v)/\dO (0,s) ps=(((p.cols - 1:Nat):Int),e):=by
 have c1:=G.c1
 have r1:=G.r1
 have o:On p 0 s:=⟨⟨by omega,by omega⟩,by omega,by omega⟩
 unfold lkW at hx
 split at hx
 ·unfold fy at hx
  obtain ⟨q,hq,rfl⟩:=List.mem_map.mp hx
  obtain ⟨hq,hq2⟩:=List.mem_filter.mp hq
  obtain ⟨_,v,gq⟩:=oJ G s ((p.cols - 1:Nat):Int) e o _ q hq
  have pw:=(jv G s ((p.cols - 1:Nat):Int) e o (p.cols - 1 + (e.toNat - s.toNat))).2 q hq
  obtain ⟨ps,e1,e2⟩:=gq.g
  refine ⟨gq.a,by rw [pw.2];omega,ps,v,?_,by rw [e2];simpa using hq2⟩
  unfold due
  rw [if_pos (ins_on.mpr o)]
  exact e1
 ·simp at hx
noncomputable def e2 (most:Nat) (r:Row) (Ls:List (List Str)) (acc:List Row) (k:Nat):List Row:=if (k:Int) ∉ (r.map fun q=>(q.2:Int))/\acc.length <= most then acc ++ (Ls.getD k []).map (fun x=>r ++ [(x,k)]) else acc
noncomputable def e3 (most:Nat) (Ls:List (List Str)) (acc:List Row) (r:Row):List Row:=(List.range Ls.length).foldl (e2 most r Ls) acc
noncomputable def e4 (most:Nat) (Ls:List (List Str)) (R:List Row):List Row:=R.foldl (e3 most Ls) []
noncomputable def m9 (p:Parts) (most:Nat):List Row ⊕ D:=cJ (fun R s=>if most < (e4 most (lkL p s) R).length then .inr .non else .inl (e4 most (lkL p s) R)) p.starts [[]]
structure RowOk (p:Parts) (ss:List Int) (r:Row):Prop where
 l:r.length=ss.length
 n:(r.map (·.2)).Nodup
 a:∀ q ∈ ss.zip r,∃ e,p.ends[q.2.2]?=some e/\q.2.1 ∈ lkW p q.1 e
theorem qm (r:Row) (x:Str) (k:Nat):aD (r ++ [(x,k)])=aD r ++ [.str x]:=by unfold aD;simp
theorem qo (r:Row) (x:Str) (k:Nat):cf (r ++ [(x,k)])=cf r ++ [.int (k:Int)]:=by unfold cf;simp
theorem iC (t:Tg) (r:Row):(D.lst t (aD r)).fz=.lst .f (aD r):=by rw [aE,aD,gN]
theorem nS (t:Tg) (r:Row):(D.lst t (cf r)).fz=.lst .f (cf r):=by rw [aE,cf,cU]
theorem zy (r:Row):(bf r).fz=bf r:=by unfold bf;rw [bp,am,am,ax,iC,nS]
theorem jV:∀ R:List Row,D.fzs (R.map bf)=R.map bf
 | []=>ax
 | r::R=>by rw [List.map_cons,am,zy,jV R]
theorem iU (L:List Str):(L.map D.str).map D.asF=L.map D.str:=by rw [List.map_map];rfl
theorem rF (xs:List D) (hx:xs.map D.asF=xs) (d:D) (hd:d.fz=d) (hl:xs.length < 900):aP (.lst .f xs) (.lst .o [d])=.ok (.lst .o (xs ++ [d])):=by
 show (match some (xs.map D.asF),some (D.fzs [d]) with
  | some xs',some ys'=>if xs'.length + ys'.length <= sizeLine then Res.ok (D.lst .o (xs' ++ ys')) else .bad
  | _,_=>.bad)=_
 rw [hx,am,ax,hd]
 show (if xs.length + 1 <= sizeLine then _ else _)=_
 rw [if_pos (fG (by omega))]
theorem gO (r:Row):(aD r).map D.asF=aD r:=iU _
theorem wc (r:Row):(cf r).map D.asF=cf r:=c0 _
theorem gc (r:Row):(aD r).length=r.length:=by simp [aD]
theorem qp (r:Row):(cf r).length=r.length:=by simp [cf]
theorem fI {f:ae->Res D} {ρ:ae} {xs:List D} (h:f ρ=.ok (.lst .f xs)) (hx:xs.map D.asF=xs):aJ f ρ=.ok xs:=by
 unfold aJ
 rw [h,bok]
 show (if _ then _ else bE (some (xs.map D.asF)))=_
 rw [if_neg (ntb rfl),hx]
 rfl
theorem iV {fa:ae->Res (List D)} {ρ:ae} {xs:List D} (h:fa ρ=.ok [.lst .f xs]) (hx:xs.map D.asF=xs):dN fa ρ=.ok ((List.range xs.length).map fun (j:Nat)=>D.tup [.int (j:Int),xs.getD j .non]):=by
 unfold dN
 rw [h,bok]
 show (if Tg.f=Tg.b \/ true=false then Res.bad else bE (some (jN (xs.map D.asF))))=_
 rw [if_neg (fun z=>z.elim (fun z=>nomatch z) fun z=>nomatch z),hx,qM]
 rfl
theorem wd (r:Row) (k:Nat) (ts:List Str) (hr:r.length < 800) (ht:ts.length <= 64) (ρ:ae) (h8:ρ[8]?=some (some (.lst .f (aD r)))) (h9:ρ[9]?=some (some (.lst .f (cf r)))) (h10:ρ[10]?=some (some (.int (k:Int)))) (h11:ρ[11]?=some (some (.lst .f (ts.map D.str)))) :
    aL 1 [8,9,10] (aJ (aa 11)) (av 0) a8 (bj (ac (f2 aP (aa 1) (bd (ac (aa 0) af))) (ac (f2 aP (aa 2) (bd (ac (aa 3) af))) af))) ρ=.ok (.lst .o ((ts.map fun x=>r ++ [(x,k)]).map bf)):=by
 rw [List.map_map]
 refine jw D.str (fun x=>[some (.str x),some (.lst .f (aD r)),some (.lst .f (cf r)),some (.int (k:Int))]) (fun x=>bf (r ++ [(x,k)])) (fun ρ=>∃ e,ρ=[e,some (.lst .f (aD r)),some (.lst .f (cf r)),some (.int (k:Int))]) ?_ ?_ ?_ (by omega)
 ·refine fI ?_ (iU ts)
  rw [b5 11 ρ _ h11];rfl
 ·refine ⟨none,?_⟩
  show [none,bn ρ 8,bn ρ 9,bn ρ 10]=_
  unfold bn
  rw [h8,h9,h10]
  rfl
 ·intro x _
  refine ⟨?_,⟨_,rfl⟩,?_,ntb rfl⟩
  ·rintro ρ ⟨e,rfl⟩
   rfl
  ·have c1:=rF (aD r) (gO r) (.str x) (bI x) (by rw [gc];omega)
   have c2:=rF (cf r) (wc r) (.int (k:Int)) (aw _) (by rw [qp];omega)
   have f1:=iC .o (r ++ [(x,k)])
   have f2:=nS .o (r ++ [(x,k)])
   unfold bf
   rw [qm,qo]
   rw [qm] at f1
   rw [qo] at f2
   (repeat' first | (with_reducible apply c1) | (with_reducible apply c2) | (with_reducible apply f1) | (with_reducible apply f2) | sizeOf_list_dec)
noncomputable def tsD (t:Tg) (ts:List Str):D:=.lst t (ts.map D.str)
theorem uL (t:Tg):∀ Ls:List (List Str),D.fzs (Ls.map (tsD t))=Ls.map (tsD .f)
 | []=>ax
 | ts::Ls=>by rw [List.map_cons,am,uL t Ls];unfold tsD;rw [aE,gN];rfl
noncomputable def stK (p:Parts) (most:Nat) (R:List Row) (s:Int) (L5:D) (e6:Option D) (acc:List Row) (e8 e9 e10 e11:Option D):ae:=
 [some p.d,some (.int (most:Int)),some (.int ((p.cols - 1:Nat):Int)),some (.lst .f (R.map bf)),some (.int s),some L5,e6,some (.lst .o (acc.map bf)),e8,e9,e10,e11]
theorem zz {i:Nat} {f:ae->Res D} {ρ ρ':ae} {xs ys:List D} (h0:ρ[i]?=some (some (.lst .o xs))) (h:f ρ=.ok (.lst .o ys)) (hl:xs.length + ys.length <= 1000) (he:ρ.set i (some (.lst .o (xs ++ ys)))=ρ'):iy i f ρ=.nx ρ':=by
 have:¬ sizeLine < xs.length + ys.length:=by have:1000 < sizeLine:=(by decide);lia
 unfold iy;rw [h0];simp only [h,aok];rw [if_neg this,he]
noncomputable abbrev gbK:ae->FOut:=(gIf (cW (ft2 (dIn true) (aa 10) (aa 9)) (ft2 dLe (fCB aR (ac (aa 7) af)) (aa 1))) (iy 7 (aL 1 [8,9,10] (aJ (aa 11)) (av 0) a8 (bj (ac (f2 aP (aa 1) (bd (ac (aa 0) af))) (ac (f2 aP (aa 2) (bd (ac (aa 3) af))) af))))) aC)
theorem xL (Ls:List (List Str)) (k:Nat) (h:k < Ls.length):(Ls.map (tsD .f)).getD k .non=tsD .f (Ls.getD k []):=by
 simp [List.getD,h]
theorem zA {m w:Nat} {p:Parts} (most:Nat) (hm:most <= 400) (R:List Row) (s:Int) (e6:Option D) (r:Row) (hr:r.length < 800) (Ls:List (List Str)) (hL:∀ ts ∈ Ls,ts.length <= 64) (acc:List Row) (ha:acc.length <= 464) (e10 e11:Option D) :
    ∃ e10' e11',bH (dN (ac (aa 5) af)) (bw [10,11]) gbK (stK p most R s (.lst .f (Ls.map (tsD .f))) e6 acc (some (.lst .f (aD r))) (some (.lst .f (cf r))) e10 e11)=.nx (stK p most R s (.lst .f (Ls.map (tsD .f))) e6 (e3 most Ls acc r) (some (.lst .f (aD r))) (some (.lst .f (cf r))) e10' e11')/\(e3 most Ls acc r).length <= 464:=by
 have fi:=iV (fa:=ac (aa 5) af) (ρ:=stK p most R s (.lst .f (Ls.map (tsD .f))) e6 acc (some (.lst .f (aD r))) (some (.lst .f (cf r))) e10 e11) (xs:=Ls.map (tsD .f)) rfl (by rw [List.map_map];rfl)
 rw [List.length_map] at fi
 obtain ⟨ρ',lp,⟨hl,e10',e11',rfl⟩⟩:=wa (gt:=bw [10,11]) (gb:=gbK) (fun (j:Nat)=>D.tup [.int (j:Int),(Ls.map (tsD .f)).getD j .non]) (fun (acc:List Row) ρ=>acc.length <= 464/\∃ e10 e11,ρ=stK p most R s (.lst .f (Ls.map (tsD .f))) e6 acc (some (.lst .f (aD r))) (some (.lst .f (cf r))) e10 e11) (e2 most r Ls) (List.range Ls.length) acc _ ⟨ha,e10,e11,rfl⟩ (fun k hk acc ρ hpat=>by
  obtain ⟨ha,e10,e11,hρ⟩:=hpat
  subst hρ
  have hk:=List.mem_range.mp hk
  rw [xL Ls k hk]
  refine ⟨stK p most R s (.lst .f (Ls.map (tsD .f))) e6 acc (some (.lst .f (aD r))) (some (.lst .f (cf r))) (some (.int (k:Int))) (some (tsD .f (Ls.getD k []))),rfl,?_⟩
  have hin:dIn true (.int (k:Int)) (.lst .f (cf r))=.ok (.bl (true != decide ((k:Int) ∈ r.map fun q=>(q.2:Int)))):=zw _ _ _
  have tt:cW (ft2 (dIn true) (aa 10) (aa 9)) (ft2 dLe (fCB aR (ac (aa 7) af)) (aa 1)) (stK p most R s (.lst .f (Ls.map (tsD .f))) e6 acc (some (.lst .f (aD r))) (some (.lst .f (cf r))) (some (.int (k:Int))) (some (tsD .f (Ls.getD k []))))=.ok ((true != decide ((k:Int) ∈ r.map fun q=>(q.2:Int))) && decide ((((acc.map bf).length:Nat):Int) <= (most:Int))):=by
   unfold stK tsD
   have lb:∀ xs:List D,(D.lst .o xs).rd=.lst .b xs:=fun _=>rfl
   (repeat' first | (with_reducible apply hin) | sizeOf_list_dec)
  have hts:(Ls.getD k []).length <= 64:=by
   refine hL _ ?_
   simp [List.getD,hk]
  unfold e2
  by_cases hc:(k:Int) ∉ (r.map fun q=>(q.2:Int))/\acc.length <= most
  ·rw [if_pos hc]
   refine ⟨_,cD tt (by simp [hc.1];exact hc.2) (zz (xs:=acc.map bf) (ys:=((Ls.getD k []).map fun x=>r ++ [(x,k)]).map bf) rfl (wd r k (Ls.getD k []) hr hts _ rfl rfl rfl rfl) (by simp at hts ⊢;lia) rfl),?_,some (.int (k:Int)),some (tsD .f (Ls.getD k [])),?_⟩
   ·simp at hts ⊢;lia
   ·unfold stK
    rw [List.map_append]
    rfl
  ·rw [if_neg hc]
   refine ⟨_,b6 tt ?_ rfl,ha,_,_,rfl⟩
   by_cases h1:(k:Int) ∈ (r.map fun q=>(q.2:Int))
   ·simp [h1]
   ·have:¬ acc.length <= most:=fun z=>hc ⟨h1,z⟩
    simp [h1];lia)
 exact ⟨e10',e11',bu fi lp,hl⟩
theorem zB {m w:Nat} {p:Parts} (most:Nat) (hm:most <= 400) (R:List Row) (hR:∀ r ∈ R,r.length < 800) (s:Int) (e6:Option D) (Ls:List (List Str)) (hL:∀ ts ∈ Ls,ts.length <= 64) (e8 e9 e10 e11:Option D) :
    ∃ e8' e9' e10' e11',bH (aJ (aa 3)) (bw [8,9]) (bH (dN (ac (aa 5) af)) (bw [10,11]) gbK) (stK p most R s (.lst .f (Ls.map (tsD .f))) e6 [] e8 e9 e10 e11)=.nx (stK p most R s (.lst .f (Ls.map (tsD .f))) e6 (e4 most Ls R) e8' e9' e10' e11')/\(e4 most Ls R).length <= 464:=by
 have fi:=fI (f:=aa 3) (ρ:=stK p most R s (.lst .f (Ls.map (tsD .f))) e6 [] e8 e9 e10 e11) (xs:=R.map bf) rfl (by rw [List.map_map];rfl)
 obtain ⟨ρ',lp,⟨hl,e8',e9',e10',e11',rfl⟩⟩:=wa (gt:=bw [8,9]) (gb:=bH (dN (ac (aa 5) af)) (bw [10,11]) gbK) bf (fun (acc:List Row) ρ=>acc.length <= 464/\∃ e8 e9 e10 e11,ρ=stK p most R s (.lst .f (Ls.map (tsD .f))) e6 acc e8 e9 e10 e11) (e3 most Ls) R [] _ ⟨by simp,e8,e9,e10,e11,rfl⟩ (fun r hr acc ρ hpat=>by
  obtain ⟨ha,e8,e9,e10,e11,hρ⟩:=hpat
  subst hρ
  obtain ⟨e10',e11',h1,h2⟩:=zA (m:=m) (w:=w) (p:=p) most hm R s e6 r (hR r hr) Ls hL acc ha e10 e11
  exact ⟨stK p most R s (.lst .f (Ls.map (tsD .f))) e6 acc (some (.lst .f (aD r))) (some (.lst .f (cf r))) e10 e11,rfl,_,h1,h2,_,_,_,_,rfl⟩)
 exact ⟨e8',e9',e10',e11',bu fi lp,hl⟩
noncomputable abbrev gbE (a:Ads):ae->FOut:=c7 5 (fIf (ft2 dGe (aa 6) (aa 4)) (au 3 (gw a) (ac (aa 0) (ac (bj (ac (fC (.int 0)) (ac (aa 4) af))) (ac (bj (ac (aa 2) (ac (aa 6) af))) af)))) (bd af))
noncomputable def stE (p:Parts) (most:Nat) (R:List Row) (s:Int) (Ls:List (List Str)) (e6 e7 e8 e9 e10 e11:Option D):ae:=
 [some p.d,some (.int (most:Int)),some (.int ((p.cols - 1:Nat):Int)),some (.lst .f (R.map bf)),some (.int s),some (.lst .o (Ls.map (tsD .o))),e6,e7,e8,e9,e10,e11]
theorem Ci {t:ae->Res Bool} {f g:ae->Res D} {ρ:ae} {b:Bool} {d:D} (h1:t ρ=.ok b) (hb:b=true) (h2:f ρ=.ok d):fIf t f g ρ=.ok d:=by unfold fIf;rw [h1,bok,hb,if_pos rfl,h2]
theorem Cj {t:ae->Res Bool} {f g:ae->Res D} {ρ:ae} {b:Bool} {d:D} (h1:t ρ=.ok b) (hb:b=false) (h2:g ρ=.ok d):fIf t f g ρ=.ok d:=by unfold fIf;rw [h1,bok,hb,if_neg (by decide),h2]
theorem zC (a:Ads) {m w:Nat} {p:Parts} (G:Good m w p) (h4:m <= 4) (hw:w <= 4) (most:Nat) (R:List Row) (s:Int) (hs:0 <= s) (e6 e7 e8 e9 e10 e11:Option D) :
    ∃ e6',bH (aJ (f2 dIx (aa 0) (fC (.int 3)))) (av 6) (gbE a) (stE p most R s [] e6 e7 e8 e9 e10 e11)=.nx (stE p most R s (lkL p s) e6' e7 e8 e9 e10 e11):=by
 have c1:=G.c1
 obtain ⟨el,sl,ei,si,s1⟩:=gM G
 have fi:aJ (f2 dIx (aa 0) (fC (.int 3))) (stE p most R s [] e6 e7 e8 e9 e10 e11)=.ok (p.ends.map D.int):=by
  refine uG ?_
  unfold stE;(repeat' first  | sizeOf_list_dec)
 obtain ⟨ρ',lp,⟨e6',rfl⟩⟩:=Dz (gt:=av 6) (gb:=gbE a) D.int (fun L1 ρ=>∃ e6,ρ=stE p most R s (L1.map (lkW p s)) e6 e7 e8 e9 e10 e11) p.ends _ ⟨e6,rfl⟩ (fun L1 e L2 hL ρ hpat=>by
  obtain ⟨e6,hρ⟩:=hpat
  subst hρ
  have hl1:L1.length < 4:=by
   have:=congrArg List.length hL
   simp at this;lia
  have he:=ei e (by rw [<- hL];simp)
  refine ⟨stE p most R s (L1.map (lkW p s)) (some (.int e)) e7 e8 e9 e10 e11,rfl,stE p most R s ((L1 ++ [e]).map (lkW p s)) (some (.int e)) e7 e8 e9 e10 e11,?_,_,rfl⟩
  refine mY (xs:=(L1.map (lkW p s)).map (tsD .o)) (d:=tsD .o (lkW p s e)) rfl ?_ (ntb rfl) (by simp;lia) ?_
  ·have tt:ft2 dGe (aa 6) (aa 4) (stE p most R s (L1.map (lkW p s)) (some (.int e)) e7 e8 e9 e10 e11)=.ok (decide (s <= e)):=by unfold stE;(repeat' first  | sizeOf_list_dec)
   unfold lkW
   by_cases h:s <= e
   ·rw [if_pos h]
    refine Ci tt (by simpa using h) ?_
    have al:=xJ a G (by lia) s.toNat (p.cols - 1) e.toNat (by lia) (by lia) (by lia)
    rw [show ((s.toNat:Nat):Int)=s by lia,show ((e.toNat:Nat):Int)=e by lia] at al
    have fz0:(D.tup [.int 0,.int s]).fz=.tup [.int 0,.int s]:=by rw [bp,am,am,ax,aw,aw]
    have fz1:∀ z:Int,(D.tup [.int z,.int e]).fz=.tup [.int z,.int e]:=fun z=>by rw [bp,am,am,ax,aw,aw]
    unfold stE tsD
    (repeat' first | (with_reducible apply al) | (with_reducible apply fz0) | (with_reducible apply fz1) | sizeOf_list_dec)
   ·rw [if_neg h]
    refine Cj tt (by simpa using h) ?_
    show bd af _=Res.ok (.lst .o [])
    (repeat' first  | sizeOf_list_dec)
  ·unfold stE
   rw [List.map_append,List.map_append]
   rfl)
 exact ⟨e6',bu fi lp⟩
theorem kO {α β:Type} (P:β->Prop) (g:β->α->β):∀ (L:List α) (b:β),P b->(∀ b,P b->∀ x ∈ L,P (g b x))->P (L.foldl g b)
 | [],_,h,_=>h
 | x::L,b,h,hs=>kO P g L (g b x) (hs b h x List.mem_cons_self) fun b hb y hy=>hs b hb y (List.mem_cons_of_mem _ hy)
noncomputable def Lng (Ls:List (List Str)) (R:List Row) (r':Row):Prop:=∃ r ∈ R,∃ k x,k < Ls.length/\x ∈ Ls.getD k []/\(k:Int) ∉ (r.map fun q=>(q.2:Int))/\r'=r ++ [(x,k)]
theorem zD (most:Nat) (Ls:List (List Str)) (R:List Row):∀ r' ∈ e4 most Ls R,Lng Ls R r':=by
 unfold e4
 refine kO (fun acc=>∀ r' ∈ acc,Lng Ls R r') (e3 most Ls) R [] (by simp) fun acc h r hr=>?_
 unfold e3
 refine kO (fun acc=>∀ r' ∈ acc,Lng Ls R r') (e2 most r Ls) _ acc h fun acc h k hk=>?_
 unfold e2
 split
 ·rename_i hc
  intro r' h'
  rcases List.mem_append.mp h' with h1 | h1
  ·exact h r' h1
  ·obtain ⟨x,hx,rfl⟩:=List.mem_map.mp h1
   exact ⟨r,hr,k,x,List.mem_range.mp hk,hx,hc.1,rfl⟩
 ·exact h
theorem xM {p:Parts} {ss:List Int} {s:Int} {R:List Row} (h:∀ r ∈ R,RowOk p ss r) {r':Row} (hr:Lng (lkL p s) R r'):RowOk p (ss ++ [s]) r':=by
 obtain ⟨r,hr,k,x,hk,hx,hn,rfl⟩:=hr
 have ok:=h r hr
 unfold lkL at hk hx
 rw [List.length_map] at hk
 obtain ⟨e,he⟩:∃ e,p.ends[k]?=some e:=⟨p.ends[k],List.getElem?_eq_getElem hk⟩
 have hx:x ∈ lkW p s e:=by
  rw [List.getD,List.getElem?_map,he] at hx
  exact hx
 refine ⟨by simp [ok.l],?_,?_⟩
 ·rw [List.map_append,List.nodup_append]
  refine ⟨ok.n,by simp,?_⟩
  intro u hu v hv
  have:v=k:=by simpa using hv
  subst this
  rintro rfl
  obtain ⟨q,hq,rfl⟩:=List.mem_map.mp hu
  exact hn (List.mem_map.mpr ⟨q,hq,rfl⟩)
 ·intro q hq
  rw [List.zip_append ok.l.symm] at hq
  rcases List.mem_append.mp hq with hq | hq
  ·exact ok.a q hq
  ·have:q=(s,(x,k)):=by simpa using hq
   subst this
   exact ⟨e,he,hx⟩
noncomputable def stG (p:Parts) (most:Nat) (R:List Row) (e4 e5 e6 e7 e8 e9 e10 e11:Option D):ae:=
 [some p.d,some (.int (most:Int)),some (.int ((p.cols - 1:Nat):Int)),some (.lst .f (R.map bf)),e4,e5,e6,e7,e8,e9,e10,e11]
theorem oW (a:Ads) {m w:Nat} {p:Parts} (G:Good m w p) (h4:m <= 4) (hw:w <= 4) (most:Nat) (hm:most <= 400) :
    (m9 p most=.inr .non/\ck a [p.d,.int (most:Int)]=.ok .non) \/ ∃ R,m9 p most=.inl R/\ck a [p.d,.int (most:Int)]=.ok (.lst .f (R.map bf))/\(∀ r ∈ R,RowOk p p.starts r)/\R.length <= 464:=by
 have c1:=G.c1
 obtain ⟨el,sl,ei,si,s1⟩:=gM G
 obtain ⟨f0,fl⟩:=kK G
 have s2:aq 2 (fFz (fCB aR (ac (f2 dIx (f2 dIx (aa 0) (fC (.int 0))) (fC (.int 0))) af))) [some p.d,some (.int (most:Int)),none,none,none,none,none,none,none,none,none,none]=.nx [some p.d,some (.int (most:Int)),some (.int ((p.cols - 1:Nat):Int)),none,none,none,none,none,none,none,none,none]:=by
  rw [show (((p.cols - 1:Nat)):Int)=((((p.right.getD 0 []).map D.int).length:Nat):Int) by rw [fl];lia]
  (repeat' first | (with_reducible apply f0) | sizeOf_list_dec)
 have s3:aq 3 (fFz (bd (ac (bj (ac (bd af) (ac (bd af) af))) af))) [some p.d,some (.int (most:Int)),some (.int ((p.cols - 1:Nat):Int)),none,none,none,none,none,none,none,none,none]=.nx (stG p most [[]] none none none none none none none none):=by
  have z0:(D.lst .o []).fz=.lst .f []:=by rw [aE,ax]
  have z0':(D.lst .f []).fz=.lst .f []:=by rw [aE,ax]
  have z1:(D.tup [.lst .f [],.lst .f []]).fz=.tup [.lst .f [],.lst .f []]:=by rw [bp,am,am,ax,z0']
  have z2:(D.lst .o [D.tup [.lst .f [],.lst .f []]]).fz=.lst .f [D.tup [.lst .f [],.lst .f []]]:=by rw [aE,am,ax,z1]
  show _=FOut.nx [some p.d,some (.int (most:Int)),some (.int ((p.cols - 1:Nat):Int)),some (.lst .f [D.tup [.lst .f [],.lst .f []]]),none,none,none,none,none,none,none,none]
  (repeat' first | (with_reducible apply z0) | (with_reducible apply z2) | sizeOf_list_dec)
 have fi:aJ (f2 dIx (aa 0) (fC (.int 2))) (stG p most [[]] none none none none none none none none)=.ok (p.starts.map D.int):=by
  refine uG ?_
  unfold stG;(repeat' first  | sizeOf_list_dec)
 have lp:=m8 (gt:=av 4) (gb:=(ao (aq 5 (bd af))
  (ao (bH (aJ (f2 dIx (aa 0) (fC (.int 3)))) (av 6) (gbE a))
  (ao (aq 7 (bd af))
  (ao (fun ρ=>(bH (aJ (aa 3)) (bw [8,9]) (bH (dN (ac (aa 5) af)) (bw [10,11]) gbK)) (frzAt 5 ρ))
  (ao (fun ρ=>(aq 3 (fFz (aa 7))) (frzAt 7 ρ))
  (gIf (ft2 dGt (fCB aR (ac (aa 3) af)) (aa 1)) (aK (fC .non)) aC))))))) D.int (fun L1 (R:List Row) ρ=>(∀ r ∈ R,RowOk p L1 r)/\R.length <= 464/\∃ e4 e5 e6 e7 e8 e9 e10 e11,ρ=stG p most R e4 e5 e6 e7 e8 e9 e10 e11) (fun R s=>if most < (e4 most (lkL p s) R).length then .inr .non else .inl (e4 most (lkL p s) R)) p.starts (fun L1 s L2 hL R ρ hpat=>by
   obtain ⟨hR,hl,e4',e5,e6,e7,e8,e9,e10,e11,hρ⟩:=hpat
   subst hρ
   have hs:=si s (by rw [<- hL];simp)
   have hl1:L1.length < 4:=by
    have:=congrArg List.length hL
    simp at this;lia
   refine ⟨stG p most R (some (.int s)) e5 e6 e7 e8 e9 e10 e11,rfl,?_⟩
   obtain ⟨f6,b1⟩:=zC a G h4 hw most R s hs.1 e6 e7 e8 e9 e10 e11
   obtain ⟨g8,g9,g10,g11,b2,b3⟩:=zB (m:=m) (w:=w) (p:=p) most hm R (fun r hr=>by rw [(hR r hr).l];lia) s f6 (lkL p s) (fun ts hts=>by
    obtain ⟨e,he,rfl⟩:=List.mem_map.mp hts
    exact xK G h4 s e (ei e he).2 hs.1) e8 e9 e10 e11
   have t1:aq 5 (bd af) (stG p most R (some (.int s)) e5 e6 e7 e8 e9 e10 e11)=.nx (stE p most R s [] e6 e7 e8 e9 e10 e11):=by
    show _=FOut.nx [some p.d,some (.int (most:Int)),some (.int ((p.cols - 1:Nat):Int)),some (.lst .f (R.map bf)),some (.int s),some (.lst .o []),e6,e7,e8,e9,e10,e11]
    unfold stG;(repeat' first  | sizeOf_list_dec)
   have t2:aq 7 (bd af) (stE p most R s (lkL p s) f6 e7 e8 e9 e10 e11)=.nx (stK p most R s (.lst .o ((lkL p s).map (tsD .o))) f6 [] e8 e9 e10 e11):=by
    show _=FOut.nx [some p.d,some (.int (most:Int)),some (.int ((p.cols - 1:Nat):Int)),some (.lst .f (R.map bf)),some (.int s),some (.lst .o ((lkL p s).map (tsD .o))),f6,some (.lst .o []),e8,e9,e10,e11]
    unfold stE;(repeat' first  | sizeOf_list_dec)
   have t3:frzAt 5 (stK p most R s (.lst .o ((lkL p s).map (tsD .o))) f6 [] e8 e9 e10 e11)=stK p most R s (.lst .f ((lkL p s).map (tsD .f))) f6 [] e8 e9 e10 e11:=by
    unfold frzAt stK
    show List.set _ 5 (some (D.fz (.lst .o ((lkL p s).map (tsD .o)))))=_
    rw [aE,uL]
    rfl
   have t4:(aq 3 (fFz (aa 7))) (frzAt 7 (stK p most R s (.lst .f ((lkL p s).map (tsD .f))) f6 (e4 most (lkL p s) R) g8 g9 g10 g11))=.nx (stG p most (e4 most (lkL p s) R) (some (.int s)) (some (.lst .f ((lkL p s).map (tsD .f)))) f6 (some (.lst .f ((e4 most (lkL p s) R).map bf))) g8 g9 g10 g11):=by
    have fr:frzAt 7 (stK p most R s (.lst .f ((lkL p s).map (tsD .f))) f6 (e4 most (lkL p s) R) g8 g9 g10 g11)=[some p.d,some (.int (most:Int)),some (.int ((p.cols - 1:Nat):Int)),some (.lst .f (R.map bf)),some (.int s),some (.lst .f ((lkL p s).map (tsD .f))),f6,some (.lst .f ((e4 most (lkL p s) R).map bf)),g8,g9,g10,g11]:=by
     unfold frzAt stK
     show List.set _ 7 (some (D.fz (.lst .o ((e4 most (lkL p s) R).map bf))))=_
     rw [aE,jV]
     rfl
    rw [fr]
    have fz:(D.lst .f ((e4 most (lkL p s) R).map bf)).fz=.lst .f ((e4 most (lkL p s) R).map bf):=by rw [aE,jV]
    unfold stG
    (repeat' first | (with_reducible apply fz) | sizeOf_list_dec)
   have tt:ft2 dGt (fCB aR (ac (aa 3) af)) (aa 1) (stG p most (e4 most (lkL p s) R) (some (.int s)) (some (.lst .f ((lkL p s).map (tsD .f)))) f6 (some (.lst .f ((e4 most (lkL p s) R).map bf))) g8 g9 g10 g11)=.ok (decide ((most:Int) < ((((e4 most (lkL p s) R).map bf).length:Nat):Int))):=by
    unfold stG;(repeat' first  | sizeOf_list_dec)
   by_cases hc:most < (e4 most (lkL p s) R).length
   ·rw [if_pos hc]
    refine aB t1 (aB b1 (aB t2 (aB (by rw [t3];exact b2) (aB t4 (cD tt (by simp;lia) ?_)))))
    (repeat' first  | sizeOf_list_dec)
   ·rw [if_neg hc]
    exact ⟨_,aB t1 (aB b1 (aB t2 (aB (by rw [t3];exact b2) (aB t4 (b6 tt (by simp;lia) rfl))))),fun r hr=>xM hR (zD most _ R r hr),b3,_,_,_,_,_,_,_,_,rfl⟩) p.starts [] [[]] _ rfl ⟨fun r hr=>by
    have:r=[]:=by simpa using hr
    subst this
    exact ⟨rfl,by simp,by simp⟩,by simp,none,none,none,none,none,none,none,none,rfl⟩
 have hcE:cJ (fun R s=>if most < (e4 most (lkL p s) R).length then .inr .non else .inl (e4 most (lkL p s) R)) p.starts [[]]=m9 p most:=rfl
 rw [hcE] at lp
 revert lp
 have nonE:∀ (L:List Int) (R:List Row) (d:D),cJ (fun R s=>if most < (e4 most (lkL p s) R).length then .inr .non else .inl (e4 most (lkL p s) R)) L R=.inr d->d=.non:=by
  intro L
  induction L with
  | nil=>intro R d h;cases h
  | cons s L ih =>
   intro R d h
   unfold cJ at h
   by_cases hc:most < (e4 most (lkL p s) R).length
   ·simp only [if_pos hc] at h
    cases h;rfl
   ·simp only [if_neg hc] at h
    exact ih _ _ h
 cases hE:m9 p most with
 | inr d =>
  intro lp
  cases nonE _ _ _ hE
  refine .inl ⟨rfl,dD (ρ:=[some p.d,some (.int (most:Int)),none,none,none,none,none,none,none,none,none,none]) rfl ?_⟩
  unfold fZ
  exact aB s2 (aB s3 (cQ (bu fi lp)))
 | inl R =>
  rintro ⟨ρ',lp,hR,hl,e4',e5,e6,e7,e8,e9,e10,e11,rfl⟩
  refine .inr ⟨R,rfl,dD (ρ:=[some p.d,some (.int (most:Int)),none,none,none,none,none,none,none,none,none,none]) rfl ?_,hR,hl⟩
  unfold fZ
  refine aB s2 (aB s3 (aB (bu fi lp) ?_))
  unfold stG
  (repeat' first  | sizeOf_list_dec)
noncomputable def trk (p:Parts) (s:Int) (x:Str):List (Int × Int):=(0,s)::match due p 0 s x with
 | some (ps,_)=>ps
 | none=>[]
noncomputable def aV (p:Parts) (r:Row):List (List (Int × Int)):=(p.starts.zip r).map fun q=>trk p q.1 q.2.1
noncomputable def ay (L:List (Int × Int)):D:=.lst .f (L.map plD)
theorem jW (L:List (List (Int × Int))):(L.map ay).map D.asF=L.map ay:=by rw [List.map_map];rfl
theorem xN (L:List (Int × Int)):(ay L).fz=ay L:=m5 .f L
theorem gP:∀ L:List (List (Int × Int)),D.fzs (L.map ay)=L.map ay
 | []=>ax
 | q::L=>by rw [List.map_cons,am,xN,gP L]
theorem qr:∀ L:List (List (Int × Int)),D.fzs (L.map fun T=>D.lst .o (T.map plD))=L.map ay
 | []=>ax
 | q::L=>by rw [List.map_cons,am,m5,qr L];rfl
theorem iW {m w:Nat} {p:Parts} (G:Good m w p) (h8:m <= 8) {r:Row} (ok:RowOk p p.starts r) {q:Int × (Str × Nat)} (hq:q ∈ p.starts.zip r) :
    asc q.2.1=true/\q.2.1.length < 900/\∃ ps v e,due p 0 q.1 q.2.1=some (ps,v)/\p.ends[q.2.2]?=some e/\dO (0,q.1) ps=(((p.cols - 1:Nat):Int),e)/\(0 <= e/\e < p.rows):=by
 obtain ⟨el,sl,ei,si,s1⟩:=gM G
 obtain ⟨e,he,hx⟩:=ok.a q hq
 have hs:=si q.1 (List.of_mem_zip hq).1
 have hee:=ei e (List.mem_of_getElem? he)
 obtain ⟨h1,h2,ps,v,h3,h4⟩:=zx G h8 q.1 e hs.1 hs.2 hee.2 q.2.1 hx
 exact ⟨h1,h2,ps,v,e,h3,he,h4,hee⟩
theorem uM (L:List Int) (r:Row):hJ (L.map D.int) (aD r)=(L.zip r).map fun q=>D.tup [.int q.1,.str q.2.1]:=by
 unfold hJ aD
 rw [List.zip_map,List.zip_map_right,List.map_map,List.map_map]
 rfl
theorem gQ {m w:Nat} {p:Parts} (G:Good m w p) (hw:w <= 4) {r:Row} (ok:RowOk p p.starts r):r.length <= 4/\(p.starts.zip r).length=r.length/\1 <= r.length:=by
 obtain ⟨el,sl,ei,si,s1⟩:=gM G
 have:=ok.l
 rw [List.length_zip];lia
theorem nc (a:Ads) {m w:Nat} {p:Parts} (G:Good m w p) (h8:m <= 8) (hw:w <= 4) {r:Row} (ok:RowOk p p.starts r) :
    cg a [p.d,.lst .f (aD r)]=.ok (.lst .o ((aV p r).map ay)):=by
 obtain ⟨l1,l2,l3⟩:=gQ G hw ok
 refine dD (ρ:=[some p.d,some (.lst .f (aD r))]) rfl ?_
 unfold j6
 have fi:my (ac (f2 dIx (aa 0) (fC (.int 2))) (ac (aa 1) af)) [some p.d,some (.lst .f (aD r))]=.ok ((p.starts.zip r).map fun q=>D.tup [.int q.1,.str q.2.1]):=by
  have hf:ac (f2 dIx (aa 0) (fC (.int 2))) (ac (aa 1) af) [some p.d,some (.lst .f (aD r))]=.ok [.lst .f (p.starts.map D.int),.lst .f (aD r)]:=by (repeat' first  | sizeOf_list_dec)
  unfold my
  rw [hf,bok]
  show (if Tg.f=Tg.b \/ true=false \/ Tg.f=Tg.b \/ true=false then Res.bad else match some ((p.starts.map D.int).map D.asF),some ((aD r).map D.asF) with
   | some ys,some zs=>Res.ok (hJ ys zs)
   | _,_=>.bad)=_
  rw [if_neg (by rintro (z | z | z | z) <;> cases z),c0,gO]
  show Res.ok (hJ _ _)=_
  rw [uM]
 have cp:=jw (own:=2) (cap:=[0]) (gt:=bw [0,1]) (fe:=f2 dIx (bU 4 (eQ a) (ac (aa 2) (ac (fC (.int 0)) (ac (aa 0) (ac (aa 1) af))))) (fC (.int 0))) (L:=p.starts.zip r) (fun q=>D.tup [.int q.1,.str q.2.1]) (fun q=>[some (.int q.1),some (.str q.2.1),some p.d]) (fun q=>ay (trk p q.1 q.2.1)) (fun ρ=>∃ e1 e2,ρ=[e1,e2,some p.d]) fi ⟨none,none,rfl⟩ (fun q hq=>by
  obtain ⟨h1,h2,ps,v,e,h3,h4,h5,h6⟩:=iW G h8 ok hq
  have wt:=vW a G 0 q.1 q.2.1 h1 h2
  rw [h3] at wt
  have wt:eQ a [p.d,.int 0,.int q.1,.str q.2.1]=.ok (.tup [ay (trk p q.1 q.2.1),.int v]):=by
   rw [wt];unfold trk;rw [h3];rfl
  refine ⟨?_,⟨_,_,rfl⟩,?_,ntb rfl⟩
  ·rintro ρ ⟨e1,e2,rfl⟩;rfl
  ·refine jT (jx (ds:=[p.d,.int 0,.int q.1,.str q.2.1]) (by (repeat' first  | sizeOf_list_dec)) rfl (by (repeat' first | (with_reducible exact Lw.ax) | (with_reducible apply Lw.bS) | (with_reducible first | exact Lw.aw _ | exact Lw.bI _ | exact Lw.cH _ | exact Lw.bP | exact Lw.kH _ | exact Lw.bK _ _ _ | exact Lw.lq _ | exact Lw.gL _ _ | exact Lw.fx _ _ _))) wt (.inl ⟨rfl,ntb rfl⟩)) v_C (ix0 rfl)) (by lia)
 rw [iq cp (ntb rfl)]
 unfold aV
 rw [List.map_map]
 rfl
noncomputable def kq (q:Int × Int):List L2.Key × D:=([Sum.inl q.1,Sum.inl q.2],.bl true)
theorem rG (b:List (Int × Int)) (q:Int × Int):jd (b.map kq) [Sum.inl q.1,Sum.inl q.2]=decide (q ∈ b):=by
 unfold jd
 rw [List.any_map,Bool.eq_iff_iff]
 simp only [List.any_eq_true,decide_eq_true_eq,Function.comp,kq]
 constructor
 ·rintro ⟨x,hx,e⟩
  have:x=q:=by
   obtain ⟨x1,x2⟩:=x
   obtain ⟨q1,q2⟩:=q
   simp at e
   simp [e]
  exact this ▸ hx
 ·intro h;exact ⟨q,h,by simp⟩
noncomputable def fN (T:Option D) (b:List (Int × Int)) (e2 e3:Option D):ae:=[T,some (.dic .o (b.map kq)),e2,e3]
noncomputable abbrev uN:ae->FOut:=(ao (gIf (ft2 ku (aa 3) (aa 1)) (aK (fC (.bl false))) aC)
 (mD 1 (aa 3) (.bl true)))
noncomputable def ls1 (b:List (Int × Int)) (q:Int × Int):List (Int × Int) ⊕ D:=if q ∈ b then .inr (.bl false) else .inl (b ++ [q])
theorem oM:∀ (T b:List (Int × Int)),b.Nodup->cJ ls1 T b=if (b ++ T).Nodup then .inl (b ++ T) else .inr (.bl false)
 | [],b,h=>by rw [List.append_nil,if_pos h];rfl
 | q::T,b,h=>by
  unfold cJ ls1
  by_cases hq:q ∈ b
  ·simp only [if_pos hq]
   rw [if_neg]
   intro z
   exact (List.nodup_append.mp z).2.2 q hq q List.mem_cons_self rfl
  ·simp only [if_neg hq]
   have h':(b ++ [q]).Nodup:=by
    rw [List.nodup_append]
    refine ⟨h,by simp,?_⟩
    intro u hu v hv
    have:v=q:=by simpa using hv
    subst this
    rintro rfl
    exact hq hu
   show cJ ls1 T (b ++ [q])=_
   rw [oM T (b ++ [q]) h',List.append_assoc]
   rfl
noncomputable def ls2 (b:List (Int × Int)) (T:List (Int × Int)):List (Int × Int) ⊕ D:=if (b ++ T).Nodup then .inl (b ++ T) else .inr (.bl false)
theorem oN:∀ (Ts:List (List (Int × Int))) (b:List (Int × Int)),b.Nodup->cJ ls2 Ts b=if (b ++ Ts.flatten).Nodup then .inl (b ++ Ts.flatten) else .inr (.bl false)
 | [],b,h=>by rw [List.flatten_nil,List.append_nil,if_pos h];rfl
 | T::Ts,b,h=>by
  unfold cJ ls2
  by_cases hq:(b ++ T).Nodup
  ·simp only [if_pos hq]
   show cJ ls2 Ts (b ++ T)=_
   rw [oN Ts (b ++ T) hq,List.flatten_cons,List.append_assoc]
  ·simp only [if_neg hq]
   rw [if_neg]
   intro z
   rw [List.flatten_cons,<- List.append_assoc] at z
   exact hq (List.nodup_append.mp z).1
theorem we (a:Ads) (Ts:List (List (Int × Int))) (hl:Ts.flatten.length <= 900):dX a [.lst .f (Ts.map ay)]=.ok (.bl (decide Ts.flatten.Nodup)):=by
 have s1:aq 1 sd [some (.lst .f (Ts.map ay)),none,none,none]=.nx (fN (some (.lst .f (Ts.map ay))) [] none none):=rfl
 have fi:=fI (f:=aa 0) (ρ:=fN (some (.lst .f (Ts.map ay))) [] none none) (xs:=Ts.map ay) rfl (jW Ts)
 have lp:=m8 (gt:=av 2) (gb:=bH (aJ (aa 2)) (av 3) uN) ay (fun L1 (b:List (Int × Int)) ρ=>b=L1.flatten/\b.Nodup/\∃ e2 e3,ρ=fN (some (.lst .f (Ts.map ay))) b e2 e3) ls2 Ts (fun L1 T L2 hL b ρ hpat=>by
  obtain ⟨hb,hn,e2,e3,hρ⟩:=hpat
  subst hρ
  have hbl:b.length + T.length <= 900:=by
   have:=congrArg (fun L=>L.flatten.length) hL
   simp at this
   rw [hb]
   simp at hl ⊢
   lia
  refine ⟨fN (some (.lst .f (Ts.map ay))) b (some (ay T)) e3,rfl,?_⟩
  have fi2:=fI (f:=aa 2) (ρ:=fN (some (.lst .f (Ts.map ay))) b (some (ay T)) e3) (xs:=T.map plD) rfl (by rw [List.map_map];rfl)
  have lp2:=m8 (gt:=av 3) (gb:=uN) plD (fun L1 (c:List (Int × Int)) ρ=>c=b ++ L1/\c.Nodup/\∃ e3,ρ=fN (some (.lst .f (Ts.map ay))) c (some (ay T)) e3) ls1 T (fun M1 q M2 hM c ρ hpat=>by
   obtain ⟨hc,hcn,e3,hρ⟩:=hpat
   subst hρ
   have hcl:c.length < 900:=by
    have:=congrArg List.length hM
    rw [hc]
    simp at this ⊢
    lia
   refine ⟨fN (some (.lst .f (Ts.map ay))) c (some (ay T)) (some (plD q)),rfl,?_⟩
   have hi:ku (plD q) (.dic .b (c.map kq))=.ok (.bl (decide (q ∈ c))):=by
    show Res.ok (D.bl (jd (c.map kq) [Sum.inl q.1,Sum.inl q.2]))=_
    rw [rG]
   have tt:ft2 ku (aa 3) (aa 1) (fN (some (.lst .f (Ts.map ay))) c (some (ay T)) (some (plD q)))=.ok (decide (q ∈ c)):=t_2 (x:=plD q) (y:=.dic .b (c.map kq)) rfl rfl hi
   unfold ls1
   by_cases hq:q ∈ c
   ·rw [if_pos hq]
    exact cQ (cD tt (by simpa using hq) rfl)
   ·rw [if_neg hq]
    refine ⟨fN (some (.lst .f (Ts.map ay))) (c ++ [q]) (some (ay T)) (some (plD q)),aB (b6 tt (by simpa using hq) rfl) ?_,by rw [hc,List.append_assoc],?_,_,rfl⟩
    ·unfold mD fN
     show (aft (Res.ok (plD q)) _)=_
     rw [aok]
     show (if sizeLine <= (c.map kq).length then FOut.bad else FOut.nx (List.set _ 1 (some (.dic .o (jP (c.map kq) [Sum.inl q.1,Sum.inl q.2] (.bl true))))))=_
     rw [if_neg (by have:1000 < sizeLine:=(by decide);simp;lia)]
     unfold jP
     rw [rG,if_neg (by simpa using hq),List.map_append]
     rfl
    ·rw [List.nodup_append]
     refine ⟨hcn,by simp,?_⟩
     intro u hu v hv
     have:v=q:=by simpa using hv
     subst this
     rintro rfl
     exact hq hu) T [] b _ rfl ⟨by rw [List.append_nil],hn,e3,rfl⟩
  rw [oM T b hn] at lp2
  unfold ls2
  by_cases hc:(b ++ T).Nodup
  ·rw [if_pos hc] at lp2 ⊢
   obtain ⟨ρ',l1,_,_,e3',rfl⟩:=lp2
   exact ⟨_,bu fi2 l1,by rw [hb];simp,hc,_,_,rfl⟩
  ·rw [if_neg hc] at lp2 ⊢
   exact bu fi2 lp2) Ts [] [] _ rfl ⟨rfl,by simp,none,none,rfl⟩
 rw [oN Ts [] (by simp),List.nil_append] at lp
 refine dD (ρ:=[some (.lst .f (Ts.map ay)),none,none,none]) rfl ?_
 unfold lK
 by_cases hc:Ts.flatten.Nodup
 ·rw [if_pos hc] at lp
  obtain ⟨ρ',l1,_,_,e2,e3,rfl⟩:=lp
  rw [decide_eq_true hc]
  exact aB s1 (aB (bu fi l1) rfl)
 ·rw [if_neg hc] at lp
  rw [decide_eq_false hc]
  exact aB s1 (cQ (bu fi lp))
theorem zE (xs:List D) (x x':D) (h:x.asF=x'):dIx (.lst .f (xs ++ [x])) (.int (-1))=.ok x':=by
 have e:L2.ixN (xs ++ [x]).length (-1)=some xs.length:=by
  unfold L2.ixN
  rw [List.length_append,if_neg (by decide),if_pos (by simp;lia)]
  congr 1
  simp;lia
 show (match L2.ixN (xs ++ [x]).length (-1) with
  | some j=>bE (D.el (.lst .f (xs ++ [x])) j)
  | none=>Res.bad)=_
 rw [e]
 show bE ((xs ++ [x])[xs.length]?.map D.asF)=_
 rw [<- h]
 simp [bE]
theorem ng {α β:Type} (g:α->β) (L:List α) (d:α):(List.range L.length).map (fun j=>g (L.getD j d))=L.map g:=by
 apply List.ext_getElem?
 intro i
 by_cases h:i < L.length
 ·simp [h,List.getD]
 ·simp [h,List.getElem?_eq_none (show L.length <= i by lia)]
theorem sG (i j:Int):dNe (.int i) (.int j)=.ok (.bl (true != decide (i=j))):=rfl
theorem sI (s:Int × Int) (ps:List (Int × Int)):∃ L,s::ps=L ++ [dO s ps]:=by
 refine ⟨(s::ps).dropLast,?_⟩
 have:(s::ps).getLast (by simp)=dO s ps:=by
  cases ps with
  | nil=>rfl
  | cons q ps=>unfold dO;rw [List.getLast?_eq_some_getLast (by simp)];simp
 rw [<- this,List.dropLast_concat_getLast]
theorem wf {p:Parts} {s:Int} {x:Str} {ps:List (Int × Int)} {v:Int} (h:due p 0 s x=some (ps,v)):∃ L,trk p s x=L ++ [dO (0,s) ps]:=by
 unfold trk;rw [h];exact sI _ _
theorem sJ {m w:Nat} {p:Parts} (G:Good m w p):p.ends.Nodup:=by
 obtain ⟨k,k1,k2,rs,re⟩:=G.many
 exact re.asc.imp fun h=>by lia
theorem zF {L:List Int} (h:L.Nodup) {k:Nat} {e:Int} (he:L[k]?=some e):L.idxOf e=k:=by
 induction L generalizing k with
 | nil=>simp at he
 | cons x L ih =>
  cases k with
  | zero =>
   have:x=e:=by simpa using he
   subst this
   simp
  | succ k =>
   have he:L[k]?=some e:=by simpa using he
   have hn:=List.nodup_cons.mp h
   have hx:x ≠ e:=by
    rintro rfl
    exact hn.1 (List.mem_of_getElem? he)
   rw [List.idxOf_cons,ih hn.2 he,show (x == e)=false by simpa using hx]
   rfl
theorem zG (a:Ads) {m w:Nat} {p:Parts} (G:Good m w p) (hw:w <= 4) {k:Nat} {e:Int} (he:p.ends[k]?=some e):iM a [aH a p,plD (((p.cols - 1:Nat):Int),e)]=.ok (.int (k:Int)):=by
 have c1:=G.c1
 obtain ⟨el,sl,ei,si,s1⟩:=gM G
 refine dD (ρ:=[some (aH a p),some (plD (((p.cols - 1:Nat):Int),e))]) rfl ?_
 unfold pP
 have tt:fV (ft2 dNe (f2 dIx (aa 1) (fC (.int 0))) (f2 dR (f1 (dk a.Net "columns") (aa 0)) (fC (.int 1)))) (ft2 (dIn true) (f2 dIx (aa 1) (fC (.int 1))) (f1 (dk a.Net "ends") (aa 0))) [some (aH a p),some (plD (((p.cols - 1:Nat):Int),e))]=.ok ((true != decide (((p.cols - 1:Nat):Int)=(p.cols:Int) - 1)) || (true != decide (e ∈ p.ends))):=by
  unfold plD
  (repeat' first | (with_reducible apply sG) | (with_reducible apply zw) | (with_reducible apply ir) | (with_reducible apply rj) | sizeOf_list_dec)
 refine aB (b6 tt ?_ rfl) (iq (d:=.int (k:Int)) ?_ (ntb rfl))
 ·have:e ∈ p.ends:=List.mem_of_getElem? he
  simp [this]
  lia
 ·have h1:f1 (dk a.Net "ends") (aa 0) [some (aH a p),some (plD (((p.cols - 1:Nat):Int),e))]=.ok (.lst .f (p.ends.map D.int)):=by (repeat' first | (with_reducible apply rj) | sizeOf_list_dec)
  have h2:f2 dIx (aa 1) (fC (.int 1)) [some (aH a p),some (plD (((p.cols - 1:Nat):Int),e))]=.ok (.int e):=by unfold plD;(repeat' first  | sizeOf_list_dec)
  unfold nF
  rw [h1,bok]
  show (match dA (p.ends.map D.int) with
   | some ns=>_
   | none=>_)=_
  rw [jJ]
  show (f2 dIx (aa 1) (fC (.int 1)) [some (aH a p),some (plD (((p.cols - 1:Nat):Int),e))] >>= _)=_
  rw [h2,bok]
  show (if e ∈ p.ends/\p.ends.length <= 1000 then Res.ok (D.int (p.ends.idxOf e:Nat)) else .bad)=_
  rw [if_pos ⟨List.mem_of_getElem? he,by lia⟩,zF (sJ G) he]
theorem mf (a:Ads) {m w:Nat} {p:Parts} (G:Good m w p) (j:Nat) (s:Int) (hs:p.starts[j]?=some s) (x:Str) (h1:asc x=true) (h2:x.length < 900) {ps:List (Int × Int)} {v:Int} (h3:due p 0 s x=some (ps,v)) :
    cZ a [aH a p,.int (j:Int),.str x]=.ok (.lst .o ((trk p s x).map plD)):=by
 have pl:=zn a G 0 s x h1 h2
 rw [h3] at pl
 have pl:gH a [aH a p,.int 0,.int s,.str x]=.ok (.lst .o ((trk p s x).map plD)):=by rw [pl];unfold trk;rw [h3];rfl
 have ix:dIx (.lst .f (p.starts.map D.int)) (.int (j:Int))=.ok (.int s):=gy (x:=.int s) (by rw [List.getElem?_map,hs];rfl) rfl
 refine dD (ρ:=[some (aH a p),some (.int (j:Int)),some (.str x)]) rfl ?_
 unfold hW
 have e:aK (au 4 (gH a) (ac (aa 0) (ac (fC (.int 0)) (ac (f2 dIx (f1 (dk a.Net "starts") (aa 0)) (aa 1)) (ac (aa 2) af))))) [some (aH a p),some (.int (j:Int)),some (.str x)]=.rt (.lst .o ((trk p s x).map plD)):=by
  (repeat' first | (with_reducible apply pl) | (with_reducible apply ix) | (with_reducible apply kM) | sizeOf_list_dec)
 unfold o7
 rw [e]
theorem qt:∀ (ns acc:List Int),(acc ++ ns).Nodup->ns.foldl dd1 acc=acc ++ ns
 | [],acc,_=>by simp
 | n::ns,acc,h=>by
  have hn:n ∉ acc:=fun z=>(List.nodup_append.mp h).2.2 n z n List.mem_cons_self rfl
  have e:dd1 acc n=acc ++ [n]:=by
   unfold dd1
   rw [if_neg]
   simpa using hn
  rw [List.foldl_cons,e,qt ns (acc ++ [n]) (by rw [List.append_assoc];exact h),List.append_assoc]
  rfl
theorem sK (a:Ads) {m w:Nat} {p:Parts} (G:Good m w p) (h8:m <= 8) (hw:w <= 4) {r:Row} (ok:RowOk p p.starts r):gs a [aH a p,.lst .f ((aV p r).map ay)]=.ok (.lst .o (cf r)):=by
 obtain ⟨l1,l2,l3⟩:=gQ G hw ok
 refine dD (ρ:=[some (aH a p),some (.lst .f ((aV p r).map ay))]) rfl ?_
 unfold kz
 have fi:=fI (f:=aa 1) (ρ:=[some (aH a p),some (.lst .f ((aV p r).map ay))]) (xs:=(aV p r).map ay) rfl (jW _)
 have fi:aJ (aa 1) [some (aH a p),some (.lst .f ((aV p r).map ay))]=.ok ((p.starts.zip r).map fun q=>ay (trk p q.1 q.2.1)):=by rw [fi];unfold aV;rw [List.map_map];rfl
 have cp:=jw (own:=1) (cap:=[0]) (gt:=av 0) (fe:=bU 2 (iM a) (ac (aa 1) (ac (f2 dIx (aa 0) (f1 jG (fC (.int 1)))) af))) (L:=p.starts.zip r) (fun q=>ay (trk p q.1 q.2.1)) (fun q=>[some (ay (trk p q.1 q.2.1)),some (aH a p)]) (fun q=>.int (q.2.2:Int)) (fun ρ=>∃ e1,ρ=[e1,some (aH a p)]) fi ⟨none,rfl⟩ (fun q hq=>by
  obtain ⟨h1,h2,ps,v,e,h3,h4,h5,h6⟩:=iW G h8 ok hq
  obtain ⟨L,hL⟩:=wf h3
  rw [h5] at hL
  have ea:=zG a G hw h4
  have la:dIx (ay (trk p q.1 q.2.1)) (.int (-1))=.ok (plD (((p.cols - 1:Nat):Int),e)):=by
   unfold ay;rw [hL,List.map_append];exact zE _ _ _ rfl
  refine ⟨?_,⟨_,rfl⟩,?_,ntb rfl⟩
  ·rintro ρ ⟨e1,rfl⟩;rfl
  ·refine jx (ds:=[aH a p,plD (((p.cols - 1:Nat):Int),e)]) (ce rfl (ce (jT (x:=ay (trk p q.1 q.2.1)) rfl (zi v_C (wB 1)) la) gU)) rfl (bS (bK _ _ _) (bS (m6 _) ax)) ea (.inr rfl)) (by lia)
 rw [iq cp (ntb rfl)]
 congr 2
 unfold cf
 rw [List.map_map]
 have:r=(p.starts.zip r).map Prod.snd:=by rw [List.map_snd_zip];rw [ok.l];exact Nat.le_refl _
 conv=>rhs;rw [this]
 rw [List.map_map]
 rfl
theorem oX (a:Ads) {m w:Nat} {p:Parts} (G:Good m w p) (h8:m <= 8) (hw:w <= 4) {r:Row} (ok:RowOk p p.starts r):eX a [aH a p,.lst .f (aD r)]=.ok (.lst .f ((aV p r).map ay)):=by
 obtain ⟨l1,l2,l3⟩:=gQ G hw ok
 have hlr:=ok.l
 have et:=sK a G h8 hw ok
 refine dD (ρ:=[some (aH a p),some (.lst .f (aD r)),none,none]) rfl ?_
 unfold i4
 have s1:ft2 (eR true) (fCB aR (ac (aa 1) af)) (fCB aR (ac (f1 (dk a.Net "starts") (aa 0)) af)) [some (aH a p),some (.lst .f (aD r)),none,none]=.ok (!decide ((((aD r).length:Nat):Int)=(((p.starts.map D.int).length:Nat):Int))):=by (repeat' first | (with_reducible apply kM) | sizeOf_list_dec)
 have fi:=iV (fa:=ac (aa 1) af) (ρ:=[some (aH a p),some (.lst .f (aD r)),none,none]) (xs:=aD r) rfl (gO r)
 rw [gc] at fi
 have cp:=jw (own:=2) (cap:=[0]) (gt:=bw [0,1]) (fe:=bU 3 (cZ a) (ac (aa 2) (ac (aa 0) (ac (aa 1) af)))) (L:=List.range r.length) (fun (j:Nat)=>D.tup [.int (j:Int),(aD r).getD j .non]) (fun j=>[some (.int (j:Int)),some (.str (r.getD j ("", 0)).1),some (aH a p)]) (fun j=>(fun T=>D.lst .o (T.map plD)) ((aV p r).getD j [])) (fun ρ=>∃ e1 e2,ρ=[e1,e2,some (aH a p)]) fi ⟨none,none,rfl⟩ (fun j hj=>by
  have hj:=List.mem_range.mp hj
  have hw:(aD r).getD j .non=.str (r.getD j ("", 0)).1:=by unfold aD;simp [List.getD,hj]
  have hz:(p.starts.zip r)[j]?=some (p.starts[j]'(by lia),r[j]):=by rw [List.getElem?_eq_getElem (by lia),List.getElem_zip]
  have hg:r.getD j ("", 0)=r[j]:=by simp [List.getD,hj]
  obtain ⟨h1,h2,ps,v,e,h3,h4,h5,h6⟩:=iW G h8 ok (List.mem_of_getElem? hz)
  have pw:=mf a G j (p.starts[j]'(by lia)) (List.getElem?_eq_getElem (by lia)) r[j].1 h1 h2 h3
  have ht:(aV p r).getD j []=trk p (p.starts[j]'(by lia)) r[j].1:=by unfold aV;rw [List.getD,List.getElem?_map,hz];rfl
  rw [hw,hg,ht]
  refine ⟨?_,⟨_,_,rfl⟩,?_,ntb rfl⟩
  ·rintro ρ ⟨e1,e2,rfl⟩;rfl
  ·exact jx (ds:=[aH a p,.int (j:Int),.str r[j].1]) rfl rfl (by (repeat' first | (with_reducible exact Lw.ax) | (with_reducible apply Lw.bS) | (with_reducible first | exact Lw.aw _ | exact Lw.bI _ | exact Lw.cH _ | exact Lw.bP | exact Lw.kH _ | exact Lw.bK _ _ _ | exact Lw.lq _ | exact Lw.gL _ _ | exact Lw.fx _ _ _))) pw (.inl ⟨rfl,ntb rfl⟩)) (by simp;lia)
 have hlt:(aV p r).length=r.length:=by unfold aV;rw [List.length_map,l2]
 have er:=ng (fun T:List (Int × Int)=>D.lst .o (T.map plD)) (aV p r) []
 rw [hlt] at er
 rw [er] at cp
 refine aB (b6 s1 (by simp [gc,hlr]) rfl) (aB (ρ':=[some (aH a p),some (.lst .f (aD r)),some (.lst .f ((aV p r).map ay)),none]) (fH (d:=.lst .f ((aV p r).map ay)) (iS cp (ntb rfl) (by rw [aE,qr])) (ntb rfl) (by show 2 < 4;decide) rfl) (aB (ρ':=[some (aH a p),some (.lst .f (aD r)),some (.lst .f ((aV p r).map ay)),some (.lst .f (cf r))]) ?_ (aB (ρ':=[some (aH a p),some (.lst .f (aD r)),some (.lst .f ((aV p r).map ay)),some (.lst .f (cf r))]) ?_ ?_)))
 ·have f1:(D.lst .f ((aV p r).map ay)).fz=.lst .f ((aV p r).map ay):=by rw [aE,gP]
  have f2:=nS .o r
  (repeat' first | (with_reducible apply et) | (with_reducible apply f1) | (with_reducible apply f2) | sizeOf_list_dec)
 ·have hs:lg (aa 3) [some (aH a p),some (.lst .f (aD r)),some (.lst .f ((aV p r).map ay)),some (.lst .f (cf r))]=.ok (.int ((r.length:Nat):Int)):=by
     unfold lg
     show (match dA (cf r) with
      | some ns=>if ns.length <= 1000 then Res.ok (D.int ((ns.foldl dd1 []).length:Nat)) else .bad
      | none=>.bad)=_
     unfold cf
     rw [jJ]
     show (if (r.map fun q=>(q.2:Int)).length <= 1000 then _ else _)=_
     rw [if_pos (by rw [List.length_map];lia),qt _ [] ?_,List.nil_append,List.length_map]
     rw [List.nil_append]
     have:=ok.n
     have e:(r.map fun q=>(q.2:Int))=(r.map (·.2)).map fun (k:Nat)=>(k:Int):=by rw [List.map_map];rfl
     rw [e]
     exact List.Pairwise.map _ (fun a b h z=>h (by lia)) this
  have hl:fCB aR (ac (aa 3) af) [some (aH a p),some (.lst .f (aD r)),some (.lst .f ((aV p r).map ay)),some (.lst .f (cf r))]=.ok (.int ((r.length:Nat):Int)):=by
   rw [<- qp r];(repeat' first  | sizeOf_list_dec)
  exact lm hs hl
 ·(repeat' first  | sizeOf_list_dec)
noncomputable def dG (tr:List (List (Int × Int))) (i:Nat) (q:Int × Int):Option Nat:=(List.range tr.length).find? fun j=>decide (j ≠ i) && decide (q ∈ tr.getD j [])
noncomputable def mtD (z:Nat × (Int × Int) × Nat):D:=.tup [.int (z.1:Int),plD z.2.1,.int (z.2.2:Int)]
noncomputable def bV (tr:List (List (Int × Int))):Option (Nat × (Int × Int) × Nat):=(List.range tr.length).findSome? fun i=>(tr.getD i []).findSome? fun q=>(dG tr i q).map fun j=>(i,q,j)
noncomputable def ig {α:Type} (f:α->D):Option α->D
 | none=>.non
 | some x=>f x
theorem lQ {α β:Type} (P:α->Bool) (g:α->β):∀ L:List α,L.findSome? (fun x=>if P x=true then some (g x) else none)=(L.find? P).map g
 | []=>rfl
 | x::L=>by
  rw [List.findSome?_cons,List.find?_cons]
  cases h:P x with
  | true=>simp
  | false=>simp [lQ P g L]
theorem qu (tr:List (List (Int × Int))) (j:Nat) (h:j < tr.length):(tr.map ay).getD j .non=ay (tr.getD j []):=by simp [List.getD,h]
theorem qN (a:Ads) (tr:List (List (Int × Int))) (i:Nat) (q:Int × Int):bJ a [.lst .f (tr.map ay),.int (i:Int),plD q]=.ok (ig (fun (j:Nat)=>.int (j:Int)) (dG tr i q)):=by
 have fi:=iV (fa:=ac (aa 0) af) (ρ:=[some (.lst .f (tr.map ay)),some (.int (i:Int)),some (plD q),none,none]) (xs:=tr.map ay) rfl (jW tr)
 rw [List.length_map] at fi
 have lp:=qk (gt:=bw [3,4]) (gb:=(gIf (cW (ft2 dNe (aa 3) (aa 1)) (ft2 (dIn false) (aa 2) (aa 4))) (aK (aa 3)) aC)) (fun (j:Nat)=>D.tup [.int (j:Int),(tr.map ay).getD j .non]) (fun ρ=>∃ e3 e4,ρ=[some (.lst .f (tr.map ay)),some (.int (i:Int)),some (plD q),e3,e4]) (fun (j:Nat)=>if (decide (j ≠ i) && decide (q ∈ tr.getD j []))=true then some (D.int (j:Int)) else none) (List.range tr.length) _ ⟨none,none,rfl⟩ (fun j hj ρ hpat=>by
  obtain ⟨e3,e4,hρ⟩:=hpat
  subst hρ
  have hj:=List.mem_range.mp hj
  rw [qu tr j hj]
  refine ⟨[some (.lst .f (tr.map ay)),some (.int (i:Int)),some (plD q),some (.int (j:Int)),some (ay (tr.getD j []))],rfl,?_⟩
  have hin:dIn false (plD q) (ay (tr.getD j []))=.ok (.bl (false != decide (q ∈ tr.getD j []))):=wE _ _ _ _
  have tt:cW (ft2 dNe (aa 3) (aa 1)) (ft2 (dIn false) (aa 2) (aa 4)) [some (.lst .f (tr.map ay)),some (.int (i:Int)),some (plD q),some (.int (j:Int)),some (ay (tr.getD j []))]=.ok ((true != decide ((j:Int)=(i:Int))) && (false != decide (q ∈ tr.getD j []))):=sD (t_2 (x:=.int (j:Int)) (y:=.int (i:Int)) rfl rfl (sG _ _)) (t_2 (x:=plD q) (y:=ay (tr.getD j [])) rfl rfl hin)
  have e:((true != decide ((j:Int)=(i:Int))) && (false != decide (q ∈ tr.getD j [])))=(decide (j ≠ i) && decide (q ∈ tr.getD j [])):=by
   have:decide ((j:Int)=(i:Int))=decide (j=i):=decide_eq_decide.mpr (by omega)
   rw [this]
   simp
  rw [e] at tt
  by_cases hc:(decide (j ≠ i) && decide (q ∈ tr.getD j []))=true
  ·rw [if_pos hc]
   exact cD tt hc (by (repeat' first  | sizeOf_list_dec))
  ·rw [if_neg hc]
   exact ⟨_,b6 tt (by simpa using hc) rfl,_,_,rfl⟩)
 rw [lQ (fun (j:Nat)=>decide (j ≠ i) && decide (q ∈ tr.getD j [])) (fun (j:Nat)=>D.int (j:Int))] at lp
 refine dD (ρ:=[some (.lst .f (tr.map ay)),some (.int (i:Int)),some (plD q),none,none]) rfl ?_
 unfold j5
 show _=FOut.rt (ig _ (dG tr i q))
 revert lp
 show (match (dG tr i q).map (fun (j:Nat)=>D.int (j:Int)) with
  | none=>_
  | some d=>_)->_
 cases hm:dG tr i q with
 | none =>
  rintro ⟨ρ',lp,e3,e4,rfl⟩
  exact aB (bu fi lp) rfl
 | some j=>intro lp;exact cQ (bu fi lp)
theorem Ck (a:Ads) (v0 v1:Option D) (tr:List (List (Int × Int))):(ao (bH (dN (ac (aa 2) af)) (bw [3,4]) (bH (aJ (aa 4)) (av 5) (ao (aq 6 (fFz (au 3 (bJ a) (ac (aa 2) (ac (aa 3) (ac (aa 5) af))))))
 (gIf (ft2 (dS true) (aa 6) (fC .non)) (aK (bj (ac (aa 3) (ac (aa 5) (ac (aa 6) af))))) aC))))
 (aK (fC .non))) [v0,v1,some (.lst .f (tr.map ay)),none,none,none,none]=.rt (ig mtD (bV tr)):=by
 have fi:=iV (fa:=ac (aa 2) af) (ρ:=[v0,v1,some (.lst .f (tr.map ay)),none,none,none,none]) (xs:=tr.map ay) rfl (jW tr)
 rw [List.length_map] at fi
 have lp:=qk (gt:=bw [3,4]) (gb:=bH (aJ (aa 4)) (av 5) (ao (aq 6 (fFz (au 3 (bJ a) (ac (aa 2) (ac (aa 3) (ac (aa 5) af))))))
  (gIf (ft2 (dS true) (aa 6) (fC .non)) (aK (bj (ac (aa 3) (ac (aa 5) (ac (aa 6) af))))) aC))) (fun (j:Nat)=>D.tup [.int (j:Int),(tr.map ay).getD j .non]) (fun ρ=>∃ e3 e4 e5 e6,ρ=[v0,v1,some (.lst .f (tr.map ay)),e3,e4,e5,e6]) (fun (i:Nat)=>((tr.getD i []).findSome? fun q=>(dG tr i q).map fun j=>(i,q,j)).map mtD) (List.range tr.length) _ ⟨none,none,none,none,rfl⟩ (fun i hi ρ hpat=>by
   obtain ⟨e3,e4,e5,e6,hρ⟩:=hpat
   subst hρ
   have hi:=List.mem_range.mp hi
   rw [qu tr i hi]
   refine ⟨[v0,v1,some (.lst .f (tr.map ay)),some (.int (i:Int)),some (ay (tr.getD i [])),e5,e6],rfl,?_⟩
   have fi2:=fI (f:=aa 4) (ρ:=[v0,v1,some (.lst .f (tr.map ay)),some (.int (i:Int)),some (ay (tr.getD i [])),e5,e6]) (xs:=(tr.getD i []).map plD) rfl (by rw [List.map_map];rfl)
   have lp2:=qk (gt:=av 5) (gb:=(ao (aq 6 (fFz (au 3 (bJ a) (ac (aa 2) (ac (aa 3) (ac (aa 5) af))))))
    (gIf (ft2 (dS true) (aa 6) (fC .non)) (aK (bj (ac (aa 3) (ac (aa 5) (ac (aa 6) af))))) aC))) plD (fun ρ=>∃ e5 e6,ρ=[v0,v1,some (.lst .f (tr.map ay)),some (.int (i:Int)),some (ay (tr.getD i [])),e5,e6]) (fun q=>((dG tr i q).map fun j=>(i,q,j)).map mtD) (tr.getD i []) _ ⟨e5,e6,rfl⟩ (fun q hq ρ hpat=>by
     obtain ⟨e5,e6,hρ⟩:=hpat
     subst hρ
     refine ⟨[v0,v1,some (.lst .f (tr.map ay)),some (.int (i:Int)),some (ay (tr.getD i [])),some (plD q),e6],rfl,?_⟩
     have lo:=qN a tr i q
     have fzt:(D.lst .f (tr.map ay)).fz=.lst .f (tr.map ay):=by rw [aE,gP]
     have fzq:=m6 q
     cases hm:dG tr i q with
     | none =>
      rw [hm] at lo
      have lo:bJ a [.lst .f (tr.map ay),.int (i:Int),plD q]=.ok .non:=lo
      have s6:aq 6 (fFz (au 3 (bJ a) (ac (aa 2) (ac (aa 3) (ac (aa 5) af))))) [v0,v1,some (.lst .f (tr.map ay)),some (.int (i:Int)),some (ay (tr.getD i [])),some (plD q),e6]=.nx [v0,v1,some (.lst .f (tr.map ay)),some (.int (i:Int)),some (ay (tr.getD i [])),some (plD q),some .non]:=
       fH (iS (d':=.non) (hZ (ds:=[.lst .f (tr.map ay),.int (i:Int),plD q]) rfl rfl (bS fzt (bS (aw _) (bS fzq ax))) lo (.inr rfl)) (ntb rfl) bP) (ntb rfl) (by show 6 < 7;decide) rfl
      exact ⟨_,aB s6 (b6 (b:=false) rfl rfl rfl),_,_,rfl⟩
     | some j =>
      rw [hm] at lo
      have lo:bJ a [.lst .f (tr.map ay),.int (i:Int),plD q]=.ok (.int (j:Int)):=lo
      have s6:aq 6 (fFz (au 3 (bJ a) (ac (aa 2) (ac (aa 3) (ac (aa 5) af))))) [v0,v1,some (.lst .f (tr.map ay)),some (.int (i:Int)),some (ay (tr.getD i [])),some (plD q),e6]=.nx [v0,v1,some (.lst .f (tr.map ay)),some (.int (i:Int)),some (ay (tr.getD i [])),some (plD q),some (.int (j:Int))]:=
       fH (iS (d':=.int (j:Int)) (hZ (ds:=[.lst .f (tr.map ay),.int (i:Int),plD q]) rfl rfl (bS fzt (bS (aw _) (bS fzq ax))) lo (.inr rfl)) (ntb rfl) (aw _)) (ntb rfl) (by show 6 < 7;decide) rfl
      refine aB s6 (cD (b:=true) rfl rfl ?_)
      refine iq (wA (es:=[.int (i:Int),plD q,.int (j:Int)]) rfl rfl (by show 3 <= 1000;decide) (bS (aw _) (bS fzq (bS (aw _) ax)))) (ntb rfl))
   have e:((tr.getD i []).findSome? fun q=>((dG tr i q).map fun j=>(i,q,j)).map mtD)=((tr.getD i []).findSome? fun q=>(dG tr i q).map fun j=>(i,q,j)).map mtD:=by
    rw [List.map_findSome?];rfl
   rw [e] at lp2
   revert lp2
   cases ((tr.getD i []).findSome? fun q=>(dG tr i q).map fun j=>(i,q,j)) with
   | none =>
    rintro ⟨ρ',l1,e5',e6',rfl⟩
    exact ⟨_,bu fi2 l1,_,_,_,_,rfl⟩
   | some z=>intro l1;exact bu fi2 l1)
 have e:((List.range tr.length).findSome? fun (i:Nat)=>((tr.getD i []).findSome? fun q=>(dG tr i q).map fun j=>(i,q,j)).map mtD)=(bV tr).map mtD:=by
  unfold bV
  rw [List.map_findSome?];rfl
 rw [e] at lp
 revert lp
 cases bV tr with
 | none =>
  rintro ⟨ρ',l1,e3,e4,e5,e6,rfl⟩
  exact aB (bu fi l1) rfl
 | some z=>intro l1;exact cQ (bu fi l1)
theorem oY (a:Ads) {m w:Nat} {p:Parts} (G:Good m w p) (h8:m <= 8) (hw:w <= 4) {r:Row} (ok:RowOk p p.starts r):dc a [aH a p,.lst .f (aD r)]=.ok (ig mtD (bV (aV p r))):=by
 have pa:=oX a G h8 hw ok
 refine dD (ρ:=[some (aH a p),some (.lst .f (aD r)),none,none,none,none,none]) rfl ?_
 unfold i5
 refine aB (ρ':=[some (aH a p),some (.lst .f (aD r)),some (.lst .f ((aV p r).map ay)),none,none,none,none]) ?_ (Ck a _ _ _)
 have f1:(D.lst .f ((aV p r).map ay)).fz=.lst .f ((aV p r).map ay):=by rw [aE,gP]
 have f2:=iC .f r
 (repeat' first | (with_reducible apply pa) | (with_reducible apply f1) | (with_reducible apply f2) | sizeOf_list_dec)
noncomputable def coD (r:Row):D:=.lst .f (aD r)
theorem zH (R:List Row):(R.map coD).map D.asF=R.map coD:=by rw [List.map_map];rfl
theorem jX (r:Row):(coD r).fz=coD r:=iC .f r
theorem nh:∀ R:List Row,D.fzs (R.map coD)=R.map coD
 | []=>ax
 | r::R=>by rw [List.map_cons,am,jX,nh R]
theorem qv (n:Nat):a7 0 n=(List.range n).map fun (i:Nat)=>D.int (i:Int):=by
 unfold a7
 refine List.map_congr_left fun i _=>?_
 rw [Int.zero_add]
theorem wg (v0 v1 v2 e4:Option D) (R:List Row) (tl:List (Option D)) (hl:R.length <= 464):aq 4 (fFz (aL 2 [] (aJ (aa 3)) (bw [0,1]) a8 (aa 0))) (v0::v1::v2::some (.lst .f (R.map bf))::e4::tl)=.nx (v0::v1::v2::some (.lst .f (R.map bf))::some (.lst .f (R.map coD))::tl):=by
 have fi:=fI (f:=aa 3) (ρ:=v0::v1::v2::some (.lst .f (R.map bf))::e4::tl) (xs:=R.map bf) rfl (by rw [List.map_map];rfl)
 have cp:=jw (own:=2) (cap:=[]) (gt:=bw [0,1]) (fe:=aa 0) (L:=R) bf (fun r=>[some (coD r),some (.lst .f (cf r))]) coD (fun ρ=>∃ e1 e2,ρ=[e1,e2]) fi ⟨none,none,rfl⟩ (fun r _=>⟨by rintro ρ ⟨e1,e2,rfl⟩;rfl,⟨_,_,rfl⟩,rfl,ntb rfl⟩) (by lia)
 exact fH (d:=.lst .f (R.map coD)) (iS cp (ntb rfl) (by rw [aE,nh])) (ntb rfl) (by simp) rfl
theorem uO {m w:Nat} {p:Parts} (G:Good m w p) (h8:m <= 8) (hw:w <= 4) {r:Row} (ok:RowOk p p.starts r):(aV p r).flatten.length <= 900:=by
 obtain ⟨l1,l2,l3⟩:=gQ G hw ok
 have c1:=G.c1
 have r1:=G.r1
 have key:∀ L:List (Int × (Str × Nat)),(∀ q ∈ L,(trk p q.1 q.2.1).length <= 200)->((L.map fun q=>trk p q.1 q.2.1).flatten).length <= 200 * L.length:=by
  intro L
  induction L with
  | nil=>simp
  | cons q L ih =>
   intro h
   have:=ih fun z hz=>h z (List.mem_cons_of_mem _ hz)
   have:=h q List.mem_cons_self
   simp at *
   lia
 have:=key (p.starts.zip r) (fun q hq=>by
  obtain ⟨e,he,hx⟩:=ok.a q hq
  obtain ⟨el,sl,ei,si,s1⟩:=gM G
  have hs:=si q.1 (List.of_mem_zip hq).1
  have hee:=ei e (List.mem_of_getElem? he)
  have o:On p 0 q.1:=⟨⟨by lia,by lia⟩,by lia,by lia⟩
  have hlen:q.2.1.length <= 100:=by
   unfold lkW at hx
   split at hx
   ·unfold fy at hx
    obtain ⟨z,hz,hz2⟩:=List.mem_map.mp hx
    have pw:=(jv G q.1 ((p.cols - 1:Nat):Int) e o (p.cols - 1 + (e.toNat - q.1.toNat))).2 z (List.mem_filter.mp hz).1
    rw [<- hz2,pw.2]
    lia
   ·simp at hx
  have hg:∀ (ls:List Str) (x y:Int) (ps:List (Int × Int)) (v:Int),go p ls x y=some (ps,v)->ps.length=ls.length:=by
   intro ls
   induction ls with
   | nil=>intro x y ps v h;have:([],1)=(ps,v):=Option.some.inj h;obtain ⟨rfl,rfl⟩:=Prod.mk.inj this;rfl
   | cons l ls ih =>
    intro x y ps v h
    rw [ju] at h
    by_cases h0:aW p x y l=0
    ·rw [if_pos h0] at h;cases h
    ·rw [if_neg h0] at h
     cases hg:go p ls (nX x l) (nY y l) with
     | none=>rw [hg] at h;cases h
     | some q =>
      obtain ⟨qs,u⟩:=q
      rw [hg] at h
      have h2:((nX x l,nY y l)::qs,aW p x y l * u)=(ps,v):=Option.some.inj h
      obtain ⟨rfl,rfl⟩:=Prod.mk.inj h2
      have:=ih _ _ _ _ hg
      simp [this]
  obtain ⟨h1,h2,ps,v,e',h3,h4,h5,h6⟩:=iW G h8 ok hq
  have:=hg _ _ _ _ _ (qf h3).2
  rw [jU] at this
  unfold trk
  rw [h3]
  simp
  lia)
 unfold aV
 lia
theorem uP (a:Ads) {m w:Nat} {p:Parts} (G:Good m w p) (h8:m <= 8) (hw:w <= 4) (ns:List Int) (v2 v3 e5:Option D) (R:List Row) (hR:∀ r ∈ R,RowOk p p.starts r) (hl:R.length <= 464) (h0:R ≠ []) (tl:List (Option D)) :
    ∃ Rs e5',gIf (ft2 dGt (f2 cX (au 2 (az a) (ac (aa 0) (ac (fC (.int 9)) af))) (fC (.int 3))) (fC (.int 0))) (ao (aq 5 (fFz (aL 1 [1] (aJ (aa 4)) (av 0) (bh (ftB (bU 1 (dX a) (ac (bU 2 (cg a) (ac (aa 1) (ac (aa 0) af))) af)))) (aa 0))))
 (gIf (ft2 dGt (fCB aR (ac (aa 5) af)) (fC (.int 0))) (aq 4 (fFz (aa 5))) aC)) aC (some (.scr ns)::some p.d::v2::v3::some (.lst .f (R.map coD))::e5::tl)=.nx (some (.scr ns)::some p.d::v2::v3::some (.lst .f (Rs.map coD))::e5'::tl)/\Rs ≠ []/\Rs.length <= 464/\∀ r ∈ Rs,RowOk p p.starts r:=by
 have c9:az a [.scr ns,.int 9]=.ok (.int (cell ns 9)):=nK a ns 9
 have md:=gT (cell ns 9) 3 (by decide)
 have tt:ft2 dGt (f2 cX (au 2 (az a) (ac (aa 0) (ac (fC (.int 9)) af))) (fC (.int 3))) (fC (.int 0)) (some (.scr ns)::some p.d::v2::v3::some (.lst .f (R.map coD))::e5::tl)=.ok (decide (0 < cell ns 9 % 3)):=by (repeat' first | (with_reducible apply c9) | (with_reducible apply md) | sizeOf_list_dec)
 by_cases hc:0 < cell ns 9 % 3
 ·have fi:=fI (f:=aa 4) (ρ:=some (.scr ns)::some p.d::v2::v3::some (.lst .f (R.map coD))::e5::tl) (xs:=R.map coD) rfl (zH R)
  have cp:=qj (own:=1) (cap:=[1]) (gt:=av 0) (ft:=bh (ftB (bU 1 (dX a) (ac (bU 2 (cg a) (ac (aa 1) (ac (aa 0) af))) af)))) (fe:=aa 0) (L:=R) coD (fun r=>[some (coD r),some p.d]) (fun r=>!decide (aV p r).flatten.Nodup) coD (fun ρ=>∃ e1,ρ=[e1,some p.d]) fi ⟨none,rfl⟩ (fun r hr=>by
   have lp:=nc a G h8 hw (hR r hr)
   have ll:=we a (aV p r) (uO G h8 hw (hR r hr))
   refine ⟨by rintro ρ ⟨e1,rfl⟩;rfl,⟨_,rfl⟩,?_,fun _=>⟨rfl,ntb rfl⟩⟩
   refine sC (t_B (jx (ds:=[.lst .o ((aV p r).map ay)]) (ce (jx (ds:=[p.d,coD r]) rfl rfl (bS (lq p) (bS (jX r) ax)) lp (.inl ⟨rfl,ntb rfl⟩)) gU) rfl (bS (by rw [aE,gP]) ax) ll (.inr rfl)))) (by lia)
  have s5:aq 5 (fFz (aL 1 [1] (aJ (aa 4)) (av 0) (bh (ftB (bU 1 (dX a) (ac (bU 2 (cg a) (ac (aa 1) (ac (aa 0) af))) af)))) (aa 0))) (some (.scr ns)::some p.d::v2::v3::some (.lst .f (R.map coD))::e5::tl)=.nx (some (.scr ns)::some p.d::v2::v3::some (.lst .f (R.map coD))::some (.lst .f ((R.filter fun r=>!decide (aV p r).flatten.Nodup).map coD))::tl):=fH (d:=.lst .f ((R.filter fun r=>!decide (aV p r).flatten.Nodup).map coD)) (iS cp (ntb rfl) (by rw [aE,nh])) (ntb rfl) (by simp) rfl
  have t2:ft2 dGt (fCB aR (ac (aa 5) af)) (fC (.int 0)) (some (.scr ns)::some p.d::v2::v3::some (.lst .f (R.map coD))::some (.lst .f ((R.filter fun r=>!decide (aV p r).flatten.Nodup).map coD))::tl)=.ok (decide (0 < ((((R.filter fun r=>!decide (aV p r).flatten.Nodup).map coD).length:Nat):Int))):=by (repeat' first  | sizeOf_list_dec)
  by_cases h2:(R.filter fun r=>!decide (aV p r).flatten.Nodup)=[]
  ·refine ⟨R,_,cD tt (by simpa using hc) (aB s5 (b6 t2 (by rw [h2];rfl) rfl)),h0,hl,hR⟩
  ·refine ⟨R.filter fun r=>!decide (aV p r).flatten.Nodup,_,cD tt (by simpa using hc) (aB s5 (cD t2 ?_ (fH (d:=.lst .f ((R.filter fun r=>!decide (aV p r).flatten.Nodup).map coD)) (iS (d:=.lst .f ((R.filter fun r=>!decide (aV p r).flatten.Nodup).map coD)) (wz rfl rfl) (ntb rfl) (by rw [aE,nh])) (ntb rfl) (by simp) rfl))),h2,?_,fun r hr=>hR r (List.mem_filter.mp hr).1⟩
   ·have:=List.length_pos_iff.mpr h2
    simp only [List.length_map,decide_eq_true_eq]
    lia
   ·have:=List.length_filter_le (fun r=>!decide (aV p r).flatten.Nodup) R
    lia
 ·exact ⟨R,e5,b6 tt (by simpa using hc) rfl,h0,hl,hR⟩
theorem wj (a:Ads) {p:Parts} (ns:List Int) (v1 v2 v3 e5 e6:Option D) (Rs:List Row) (h0:Rs ≠ []) (tl:List (Option D)) :
    ∃ r ∈ Rs,aq 6 (fFz (f2 dIx (aa 4) (f2 cX (au 2 (az a) (ac (aa 0) (ac (fC (.int 8)) af))) (fCB aR (ac (aa 4) af))))) (some (.scr ns)::v1::v2::v3::some (.lst .f (Rs.map coD))::e5::e6::tl)=.nx (some (.scr ns)::v1::v2::v3::some (.lst .f (Rs.map coD))::e5::some (coD r)::tl):=by
 have hp:=List.length_pos_iff.mpr h0
 have c8:az a [.scr ns,.int 8]=.ok (.int (cell ns 8)):=nK a ns 8
 have md:=gT (cell ns 8) ((((Rs.map coD).length:Nat):Int)) (by rw [List.length_map];lia)
 have m1:=Int.emod_nonneg (cell ns 8) (b:=((((Rs.map coD).length:Nat):Int))) (by rw [List.length_map];lia)
 have m2:=Int.emod_lt_of_pos (cell ns 8) (b:=((((Rs.map coD).length:Nat):Int))) (by rw [List.length_map];lia)
 obtain ⟨k,hk⟩:∃ k:Nat,cell ns 8 % ((((Rs.map coD).length:Nat):Int))=(k:Int):=⟨_,(Int.toNat_of_nonneg m1).symm⟩
 rw [hk] at md m2
 have hkl:k < Rs.length:=by rw [List.length_map] at m2;lia
 have ix:dIx (.lst .f (Rs.map coD)) (.int (k:Int))=.ok (coD Rs[k]):=gy (x:=coD Rs[k]) (by rw [List.getElem?_map,List.getElem?_eq_getElem hkl];rfl) rfl
 refine ⟨Rs[k],List.getElem_mem hkl,?_⟩
 refine fH (d:=coD Rs[k]) (iS (d:=coD Rs[k]) ?_ (ntb rfl) (jX _)) (ntb rfl) (by simp) rfl
 (repeat' first | (with_reducible apply c8) | (with_reducible apply md) | (with_reducible apply ix) | sizeOf_list_dec)
theorem qO (tr:List (List (Int × Int))) (hl:tr.length < 900) (i:Nat) (q:Int × Int) (j0 j1 j2:Nat) (ρ:ae) (h0:ρ[j0]?=some (some (.lst .f (tr.map ay)))) (h1:ρ[j1]?=some (some (.int (i:Int)))) (h2:ρ[j2]?=some (some (plD q))) :
    aL 1 [j0,j1,j2] (bW (ac (fCB aR (ac (aa j0) af)) af)) (av 0) (cW (ft2 dNe (aa 0) (aa 2)) (ft2 (dIn false) (aa 3) (f2 dIx (aa 1) (aa 0)))) (aa 0) ρ=.ok (.lst .o (((List.range tr.length).filter fun j=>decide (j ≠ i) && decide (q ∈ tr.getD j [])).map fun (j:Nat)=>D.int (j:Int))):=by
 have fi:bW (ac (fCB aR (ac (aa j0) af)) af) ρ=.ok ((List.range tr.length).map fun (j:Nat)=>D.int (j:Int)):=by
  rw [<- qv]
  refine eh (ce ?_ gU) (by lia)
  have:=fw (j:=j0) (ρ:=ρ) h0 rfl
  rw [List.length_map] at this
  exact this
 refine qj (fun (j:Nat)=>D.int (j:Int)) (fun j=>[some (.int (j:Int)),some (.lst .f (tr.map ay)),some (.int (i:Int)),some (plD q)]) _ _ (fun ρ=>∃ e,ρ=[e,some (.lst .f (tr.map ay)),some (.int (i:Int)),some (plD q)]) fi ⟨none,?_⟩ (fun j hj=>?_) (by simp;lia)
 ·show [none,bn ρ j0,bn ρ j1,bn ρ j2]=_
  unfold bn
  rw [h0,h1,h2]
  rfl
 ·have hj:=List.mem_range.mp hj
  refine ⟨by rintro ρ ⟨e,rfl⟩;rfl,⟨_,rfl⟩,?_,fun _=>⟨rfl,ntb rfl⟩⟩
  have hin:dIn false (plD q) (ay (tr.getD j []))=.ok (.bl (false != decide (q ∈ tr.getD j []))):=wE _ _ _ _
  have ix:dIx (.lst .f (tr.map ay)) (.int (j:Int))=.ok (ay (tr.getD j [])):=gy (x:=ay (tr.getD j [])) (by simp [List.getD,hj]) rfl
  have tt:cW (ft2 dNe (aa 0) (aa 2)) (ft2 (dIn false) (aa 3) (f2 dIx (aa 1) (aa 0))) [some (.int (j:Int)),some (.lst .f (tr.map ay)),some (.int (i:Int)),some (plD q)]=.ok ((true != decide ((j:Int)=(i:Int))) && (false != decide (q ∈ tr.getD j []))):=sD (t_2 (x:=.int (j:Int)) (y:=.int (i:Int)) rfl rfl (sG _ _)) (t_2 (x:=plD q) (y:=ay (tr.getD j [])) rfl (jT (x:=.lst .f (tr.map ay)) (y:=.int (j:Int)) rfl rfl ix) hin)
  have e:((true != decide ((j:Int)=(i:Int))) && (false != decide (q ∈ tr.getD j [])))=(decide (j ≠ i) && decide (q ∈ tr.getD j [])):=by
   have:decide ((j:Int)=(i:Int))=decide (j=i):=decide_eq_decide.mpr (by lia)
   rw [this]
   simp
  rw [e] at tt
  exact tt
theorem qP (n i:Nat) (q:Int × Int) (tr:List (List (Int × Int))) (hn:n=tr.length):((List.range n).filter fun j=>decide (j ≠ i) && decide (q ∈ tr.getD j [])).head?=dG tr i q:=by
 subst hn
 rw [List.head?_filter];rfl
noncomputable def fQ (z:Str) (k:Nat):Str:=⟨(z.cps.toList.take k).toArray⟩
noncomputable def fS (z:Str) (k:Nat):Str:=⟨(z.cps.toList.drop k).toArray⟩
theorem DA:∀ n ≤ 16,∀ k ≤ n,Builtin.Str.strSliceIndices none (some ((k:Nat):Int)) 1 n=List.range k:=by decide +kernel
theorem DB:∀ n ≤ 16,∀ k ≤ n,Builtin.Str.strSliceIndices (some ((k:Nat):Int)) none 1 n=(List.range (n - k)).map (k + ·):=by decide +kernel
theorem nT {α:Type} (L:List α):∀ k,(List.range k).filterMap (fun i=>L[i]?)=L.take k
 | 0=>by simp
 | k + 1=>by
  rw [List.range_succ,List.filterMap_append,nT L k,List.take_add_one]
  cases h:L[k]? <;> simp [h]
theorem wl (z:Str) (h:z.length <= 16) (k:Nat) (hk:k <= z.length):eT z none (some (k:Int))=fQ z k:=by
 unfold eT
 rw [DA z.length h k hk]
 have e:(List.range k).filterMap (z.cps[·]?)=z.cps.toList.take k:=by
  rw [<- nT]
  congr 1
  funext i
  simp
 split
 ·rename_i hl
  rw [List.length_range] at hl
  unfold fQ
  rw [List.take_of_length_le (by subst hl;simp [Str.length])]
 ·unfold fQ;rw [e]
theorem wm (z:Str) (h:z.length <= 16) (k:Nat) (hk:k <= z.length):eT z (some (k:Int)) none=fS z k:=by
 unfold eT
 rw [DB z.length h k hk]
 have e:((List.range (z.length - k)).map (k + ·)).filterMap (z.cps[·]?)=z.cps.toList.drop k:=by
  rw [List.filterMap_map]
  have:=nT (z.cps.toList.drop k) (z.length - k)
  rw [List.take_of_length_le (by simp [Str.length])] at this
  rw [<- this]
  congr 1
  funext i
  simp [List.getElem?_drop]
 split
 ·rename_i hl
  rw [List.length_map,List.length_range] at hl
  unfold fS
  have:k=0 \/ z.length=0:=by lia
  rcases this with rfl | h0
  ·simp
  ·have:z.cps.toList=[]:=List.eq_nil_of_length_eq_zero (by simpa [Str.length] using h0)
   have e2:z=⟨z.cps.toList.toArray⟩:=by cases z;simp
   rw [this] at e2 ⊢
   rw [e2];simp
 ·unfold fS;rw [e]
theorem oO (z:Str) (k:Nat):(fQ z k).length <= z.length:=by
 show (List.toArray _).size <= _
 rw [List.size_toArray,List.length_take]
 have:z.cps.toList.length=z.length:=by simp [Str.length]
 lia
theorem oP (z:Str) (k:Nat):(fS z k).length <= z.length:=by
 show (List.toArray _).size <= _
 rw [List.size_toArray,List.length_drop]
 have:z.cps.toList.length=z.length:=by simp [Str.length]
 lia
theorem Cl {f:ae->Res D} {fh:ae->Res (Option Int)} {ρ:ae} {z:Str} {k:Nat} (h1:f ρ=.ok (.str z)) (h3:fh ρ=.ok (some (k:Int))) (hz:z.length <= 16) (hk:k <= z.length):fSl f foN fh ρ=.ok (.str (fQ z k)):=by
 unfold fSl
 rw [h1,bok]
 show (Res.ok none >>= _)=_
 rw [bok,h3,bok]
 show (if (eT z none (some (k:Int))).length <= sizeLine then Res.ok (D.str (eT z none (some (k:Int)))) else _)=_
 rw [wl z hz k hk,if_pos (fG (by have:=oO z k;lia))]
theorem Cm {f:ae->Res D} {fl:ae->Res (Option Int)} {ρ:ae} {z:Str} {k:Nat} (h1:f ρ=.ok (.str z)) (h3:fl ρ=.ok (some (k:Int))) (hz:z.length <= 16) (hk:k <= z.length):fSl f fl foN ρ=.ok (.str (fS z k)):=by
 unfold fSl
 rw [h1,bok,h3,bok]
 show (Res.ok none >>= _)=_
 rw [bok]
 show (if (eT z (some (k:Int)) none).length <= sizeLine then Res.ok (D.str (eT z (some (k:Int)) none)) else _)=_
 rw [wm z hz k hk,if_pos (fG (by have:=oP z k;lia))]
theorem wF {f:ae->Res D} {ρ:ae} {i:Int} (h:f ρ=.ok (.int i)):foS f ρ=.ok (some i):=by unfold foS;rw [h,bok]
theorem sL (p:Parts):∀ (ls:List Str) (x y:Int) (ps:List (Int × Int)) (v:Int),go p ls x y=some (ps,v)->ps.length=ls.length/\∀ (c:Nat) (q:Int × Int),((x,y)::ps)[c]?=some q->q.1 + q.2=x + y + c
 | [],x,y,ps,v,h=>by
  have:([],1)=(ps,v):=Option.some.inj h
  obtain ⟨rfl,rfl⟩:=Prod.mk.inj this
  refine ⟨rfl,fun c q hq=>?_⟩
  cases c with
  | zero => have : (x, y) = q := by simpa using hq
            subst this;simp
  | succ c=>simp at hq
 | l::ls,x,y,ps,v,h=>by
  rw [ju] at h
  by_cases h0:aW p x y l=0
  ·rw [if_pos h0] at h;cases h
  ·rw [if_neg h0] at h
   cases hg:go p ls (nX x l) (nY y l) with
   | none=>rw [hg] at h;cases h
   | some q =>
    obtain ⟨qs,u⟩:=q
    rw [hg] at h
    have h2:((nX x l,nY y l)::qs,aW p x y l * u)=(ps,v):=Option.some.inj h
    obtain ⟨rfl,rfl⟩:=Prod.mk.inj h2
    obtain ⟨i1,i2⟩:=sL p ls _ _ _ _ hg
    refine ⟨by simp [i1],fun c q hq=>?_⟩
    cases c with
    | zero => have : (x, y) = q := by simpa using hq
              subst this;simp
    | succ c =>
     have:=i2 c q (by simpa using hq)
     rw [this]
     unfold nX nY
     split <;> push_cast <;> lia
theorem rH {p:Parts} {s:Int} {x:Str} {ps:List (Int × Int)} {v:Int} (h:due p 0 s x=some (ps,v)):(trk p s x).length=x.length + 1:=by
 have:=(sL p _ _ _ _ _ (qf h).2).1
 rw [jU] at this
 unfold trk;rw [h];simp [this]
noncomputable def cutN (s:Int) (q:Int × Int):Nat:=(q.1 + q.2 - s).toNat
theorem nk {p:Parts} {s:Int} {x:Str} {ps:List (Int × Int)} {v:Int} (h:due p 0 s x=some (ps,v)) {c:Nat} {q:Int × Int} (hq:(trk p s x)[c]?=some q):q.1 + q.2 - s=(c:Int)/\c <= x.length:=by
 have g:=qf h
 have hl:=rH h
 unfold trk at hq
 rw [h] at hq
 have:=(sL p _ _ _ _ _ g.2).2 c q hq
 refine ⟨by lia,?_⟩
 have:c < (trk p s x).length:=by unfold trk;rw [h];exact (List.getElem?_eq_some_iff.mp hq).1
 lia
theorem nU {p:Parts} {s:Int} {x:Str} {ps:List (Int × Int)} {v:Int} (h:due p 0 s x=some (ps,v)) {q:Int × Int} (hq:q ∈ trk p s x):(trk p s x)[cutN s q]?=some q/\q.1 + q.2 - s=(cutN s q:Int)/\cutN s q <= x.length:=by
 obtain ⟨c,hc⟩:=List.mem_iff_getElem?.mp hq
 obtain ⟨h1,h2⟩:=nk h hc
 have:cutN s q=c:=by unfold cutN;lia
 rw [this]
 exact ⟨hc,h1,h2⟩
theorem uQ {p:Parts} {s:Int} {x:Str} {ps:List (Int × Int)} {v:Int} (h:due p 0 s x=some (ps,v)):(trk p s x).Nodup:=by
 refine List.pairwise_iff_getElem.mpr fun i j hi hj hij e=>?_
 have h1:=nk h (List.getElem?_eq_getElem hi)
 have h2:=nk h (List.getElem?_eq_getElem hj)
 rw [e] at h1
 lia
theorem xO {L:List (Int × Int)} (h:L.Nodup) {k:Nat} {e:Int × Int} (he:L[k]?=some e):L.idxOf e=k:=by
 induction L generalizing k with
 | nil=>simp at he
 | cons x L ih =>
  cases k with
  | zero =>
   have:x=e:=by simpa using he
   subst this
   simp
  | succ k =>
   have he:L[k]?=some e:=by simpa using he
   have hn:=List.nodup_cons.mp h
   have hx:x ≠ e:=by
    rintro rfl
    exact hn.1 (List.mem_of_getElem? he)
   rw [List.idxOf_cons,ih hn.2 he,show (x == e)=false by simpa using hx]
   rfl
theorem sM {tr:List (List (Int × Int))} {i j:Nat} {q:Int × Int} (h:bV tr=some (i,q,j)):i < tr.length/\j < tr.length/\j ≠ i/\q ∈ tr.getD i []/\q ∈ tr.getD j []:=by
 unfold bV at h
 obtain ⟨i',hi,h⟩:=List.exists_of_findSome?_eq_some h
 obtain ⟨q',hq,h⟩:=List.exists_of_findSome?_eq_some h
 cases hm:dG tr i' q' with
 | none=>rw [hm] at h;cases h
 | some j' =>
  rw [hm] at h
  cases h
  unfold dG at hm
  have h1:=List.find?_some hm
  have h2:=List.mem_of_find?_eq_some hm
  simp at h1
  exact ⟨List.mem_range.mp hi,List.mem_range.mp h2,h1.1,hq,by simpa using h1.2⟩
theorem uR {m w:Nat} {p:Parts} (G:Good m w p) (h8:m <= 8) {r:Row} (ok:RowOk p p.starts r) {q:Int × (Str × Nat)} (hq:q ∈ p.starts.zip r):q.2.1.length <= 14:=by
 have c1:=G.c1
 have r1:=G.r1
 obtain ⟨e,he,hx⟩:=ok.a q hq
 obtain ⟨el,sl,ei,si,s1⟩:=gM G
 have hs:=si q.1 (List.of_mem_zip hq).1
 have hee:=ei e (List.mem_of_getElem? he)
 have o:On p 0 q.1:=⟨⟨by lia,by lia⟩,by lia,by lia⟩
 unfold lkW at hx
 split at hx
 ·unfold fy at hx
  obtain ⟨z,hz,hz2⟩:=List.mem_map.mp hx
  have pw:=(jv G q.1 ((p.cols - 1:Nat):Int) e o (p.cols - 1 + (e.toNat - q.1.toNat))).2 z (List.mem_filter.mp hz).1
  rw [<- hz2,pw.2]
  lia
 ·simp at hx
noncomputable def rw0 (r:Row) (i:Nat):Str:=(r.getD i ("", 0)).1
noncomputable def st0 (p:Parts) (i:Nat):Int:=p.starts.getD i 0
theorem nq {m w:Nat} {p:Parts} (G:Good m w p) (h8:m <= 8) {r:Row} (ok:RowOk p p.starts r) {i:Nat} (hi:i < r.length) :
    (p.starts.zip r)[i]?=some (st0 p i,r.getD i ("", 0))/\(aV p r).getD i []=trk p (st0 p i) (rw0 r i)/\(rw0 r i).length <= 14/\∃ ps v,due p 0 (st0 p i) (rw0 r i)=some (ps,v):=by
 have hl:=ok.l
 have hz:(p.starts.zip r)[i]?=some (st0 p i,r.getD i ("", 0)):=by
  rw [List.getElem?_eq_getElem (by rw [List.length_zip];lia),List.getElem_zip]
  unfold st0
  simp [List.getD,hi,show i < p.starts.length by lia]
 obtain ⟨h1,h2,ps,v,e,h3,_⟩:=iW G h8 ok (List.mem_of_getElem? hz)
 refine ⟨hz,?_,uR G h8 ok (List.mem_of_getElem? hz),ps,v,h3⟩
 unfold aV
 rw [List.getD,List.getElem?_map,hz]
 rfl
noncomputable def exW (p:Parts) (r:Row) (z:Nat × (Int × Int) × Nat):List Str:=
 ((r.map (·.1)).set z.1 (fQ (rw0 r z.1) (cutN (st0 p z.1) z.2.1) ++ fS (rw0 r z.2.2) (cutN (st0 p z.2.2) z.2.1))).set z.2.2 (fQ (rw0 r z.2.2) (cutN (st0 p z.2.2) z.2.1) ++ fS (rw0 r z.1) (cutN (st0 p z.1) z.2.1))
theorem uS (r:Row) (i:Nat) (hi:i < r.length):dIx (.lst .f (aD r)) (.int (i:Int))=.ok (.str (rw0 r i)):=gy (x:=.str (rw0 r i)) (by unfold aD rw0;simp [List.getD,hi]) rfl
theorem nr {ρ:ae} {r:Row} {c i j ci cj:Nat} {ni nj:Nat} {I J:Nat} (hc:ρ[c]?=some (some (.lst .f (aD r)))) (hi:ρ[i]?=some (some (.int (I:Int)))) (hj:ρ[j]?=some (some (.int (J:Int)))) (hci:ρ[ci]?=some (some (.int (ni:Int)))) (hcj:ρ[cj]?=some (some (.int (nj:Int))))
    (h1:I < r.length) (h2:J < r.length) (l1:(rw0 r I).length <= 14) (l2:(rw0 r J).length <= 14) (n1:ni <= (rw0 r I).length) (n2:nj <= (rw0 r J).length) :
    f2 aP (fSl (f2 dIx (aa c) (aa i)) foN (foS (aa ci))) (fSl (f2 dIx (aa c) (aa j)) (foS (aa cj)) foN) ρ=.ok (.str (fQ (rw0 r I) ni ++ fS (rw0 r J) nj)):=by
 have vc:aa c ρ=.ok (.lst .f (aD r)):=by rw [b5 c ρ _ hc];rfl
 have a1:f2 dIx (aa c) (aa i) ρ=.ok (.str (rw0 r I)):=jT vc (b5 i ρ _ hi) (uS r I h1)
 have a2:f2 dIx (aa c) (aa j) ρ=.ok (.str (rw0 r J)):=jT vc (b5 j ρ _ hj) (uS r J h2)
 refine jT (Cl a1 (wF (b5 ci ρ _ hci)) (by lia) n1) (Cm a2 (wF (b5 cj ρ _ hcj)) (by lia) n2) (rk _ _ ?_)
 have:=oO (rw0 r I) ni
 have:=oP (rw0 r J) nj
 lia
theorem lu {i:Nat} {fk f:ae->Res D} {ρ ρ':ae} {xs:List D} {d:D} {k:Nat} (h0:ρ[i]?=some (some (.lst .o xs))) (h:f ρ=.ok d) (hk:fk ρ=.ok (.int (k:Int))) (hl:k < xs.length) (hb:d.tag ≠ .b) (he:ρ.set i (some (.lst .o (xs.set k d)))=ρ'):eK i fk f ρ=.nx ρ':=by
 have e:L2.ixN xs.length (k:Int)=some k:=by unfold L2.ixN;rw [if_pos (by lia),if_pos (by lia)];simp
 unfold eK;rw [h0];simp only [h,aok,hk,e];rw [if_neg hb,he]
theorem jY (W:List Str) (i:Nat) (s:Str):(W.map D.str).set i (.str s)=(W.set i s).map D.str:=by rw [List.map_set]
theorem qw (a:Ads) {p:Parts} (i:Nat) (hi:i < p.starts.length) (q:Int × Int):gu a [aH a p,.int (i:Int),plD q]=.ok (.int (q.1 + q.2 - st0 p i)):=by
 refine dD (ρ:=[some (aH a p),some (.int (i:Int)),some (plD q)]) rfl ?_
 unfold mJ
 have ix:dIx (.lst .f (p.starts.map D.int)) (.int (i:Int))=.ok (.int (st0 p i)):=gy (x:=.int (st0 p i)) (by unfold st0;simp [List.getD,hi]) rfl
 unfold plD
 (repeat' first | (with_reducible apply kM) | (with_reducible apply ix) | sizeOf_list_dec)
theorem uT (a:Ads) {m w:Nat} {p:Parts} (G:Good m w p) (h8:m <= 8) (hw:w <= 4) {r:Row} (ok:RowOk p p.starts r):dW a [aH a p,.lst .f (aD r)]=.ok (ig (fun z=>.lst .o ((exW p r z).map D.str)) (bV (aV p r))):=by
 have fm:=oY a G h8 hw ok
 obtain ⟨l1,l2,l3⟩:=gQ G hw ok
 have hlt:(aV p r).length=r.length:=by unfold aV;rw [List.length_map,l2]
 have fz2:=iC .f r
 refine dD (ρ:=[some (aH a p),some (.lst .f (aD r)),none,none,none,none,none,none]) rfl ?_
 unfold lE
 cases hf:bV (aV p r) with
 | none =>
  rw [hf] at fm
  have fm:dc a [aH a p,.lst .f (aD r)]=.ok .non:=fm
  refine aB (ρ':=[some (aH a p),some (.lst .f (aD r)),some .non,none,none,none,none,none]) (by (repeat' first | (with_reducible apply fm) | (with_reducible apply fz2) | sizeOf_list_dec)) (cQ (cD (b:=true) rfl rfl rfl))
 | some z =>
  obtain ⟨i,q,j⟩:=z
  rw [hf] at fm
  have fm:dc a [aH a p,.lst .f (aD r)]=.ok (mtD (i,q,j)):=fm
  obtain ⟨hi,hj,hne,hqi,hqj⟩:=sM hf
  rw [hlt] at hi hj
  obtain ⟨_,ti,si,psi,vi,di⟩:=nq G h8 ok hi
  obtain ⟨_,tj,sj,psj,vj,dj⟩:=nq G h8 ok hj
  rw [ti] at hqi
  rw [tj] at hqj
  obtain ⟨_,ci,ki⟩:=nU di hqi
  obtain ⟨_,cj,kj⟩:=nU dj hqj
  have sti:=qw a i (by rw [<- ok.l];exact hi) q
  have stj:=qw a j (by rw [<- ok.l];exact hj) q
  rw [ci] at sti
  rw [cj] at stj
  have fzm:(mtD (i,q,j)).fz=mtD (i,q,j):=by unfold mtD;rw [bp,am,am,am,ax,aw,aw,m6]
  have fzq:=m6 q
  have x0:dIx (mtD (i,q,j)) (.int 0)=.ok (.int (i:Int)):=ix0 rfl
  have x1:dIx (mtD (i,q,j)) (.int 1)=.ok (plD q):=ix1 rfl
  have x2:dIx (mtD (i,q,j)) (.int 2)=.ok (.int (j:Int)):=ix2 rfl
  have rdm:(mtD (i,q,j)).rd=mtD (i,q,j):=rfl
  have v2:∀ e3 e4 e5 e6 e7,aa 2 [some (aH a p),some (.lst .f (aD r)),some (mtD (i,q,j)),e3,e4,e5,e6,e7]=.ok (mtD (i,q,j)):=fun _ _ _ _ _=>rfl
  refine aB (ρ':=[some (aH a p),some (.lst .f (aD r)),some (mtD (i,q,j)),none,none,none,none,none]) (by (repeat' first | (with_reducible apply fm) | (with_reducible apply fz2) | (with_reducible apply fzm) | sizeOf_list_dec)) (aB (b6 (b:=false) rfl rfl rfl) (aB (ρ':=[some (aH a p),some (.lst .f (aD r)),some (mtD (i,q,j)),some (.int (i:Int)),none,none,none,none]) (by (repeat' first | (with_reducible apply v2) | (with_reducible apply x0) | sizeOf_list_dec)) (aB (ρ':=[some (aH a p),some (.lst .f (aD r)),some (mtD (i,q,j)),some (.int (i:Int)),some (.int (j:Int)),none,none,none]) (by (repeat' first | (with_reducible apply v2) | (with_reducible apply x2) | sizeOf_list_dec)) (aB (ρ':=[some (aH a p),some (.lst .f (aD r)),some (mtD (i,q,j)),some (.int (i:Int)),some (.int (j:Int)),some (.int (cutN (st0 p i) q:Int)),none,none]) (by (repeat' first | (with_reducible apply v2) | (with_reducible apply x1) | (with_reducible apply sti) | (with_reducible apply fzq) | sizeOf_list_dec)) (aB (ρ':=[some (aH a p),some (.lst .f (aD r)),some (mtD (i,q,j)),some (.int (i:Int)),some (.int (j:Int)),some (.int (cutN (st0 p i) q:Int)),some (.int (cutN (st0 p j) q:Int)),none]) (by (repeat' first | (with_reducible apply v2) | (with_reducible apply x1) | (with_reducible apply stj) | (with_reducible apply fzq) | sizeOf_list_dec)) (aB (ρ':=[some (aH a p),some (.lst .f (aD r)),some (mtD (i,q,j)),some (.int (i:Int)),some (.int (j:Int)),some (.int (cutN (st0 p i) q:Int)),some (.int (cutN (st0 p j) q:Int)),some (.lst .o (aD r))]) ?_ (aB (lu (k:=i) (xs:=aD r) rfl (nr (r:=r) (c:=1) (i:=3) (j:=4) (ci:=5) (cj:=6) rfl rfl rfl rfl rfl hi hj si sj ki kj) rfl (by rw [gc];exact hi) (ntb rfl) rfl) (aB (lu (k:=j) (xs:=(aD r).set i (.str (fQ (rw0 r i) (cutN (st0 p i) q) ++ fS (rw0 r j) (cutN (st0 p j) q)))) rfl (nr (r:=r) (c:=1) (i:=4) (j:=3) (ci:=6) (cj:=5) rfl rfl rfl rfl rfl hj hi sj si kj ki) rfl (by rw [List.length_set,gc];exact hj) (ntb rfl) rfl) ?_))))))))
  ·have cl:bz [.lst .f (aD r)]=.ok (.lst .o (aD r)):=by show Res.ok (D.lst .o ((aD r).map D.asF))=_;rw [gO]
   (repeat' first | (with_reducible apply cl) | sizeOf_list_dec)
  ·show FOut.rt _=FOut.rt _
   congr 1
   show D.lst .o _=D.lst .o _
   congr 1
   unfold exW aD
   rw [jY,jY]
noncomputable def exD (p:Parts) (r:Row) (z:Nat × (Int × Int) × Nat):D:=.lst .o ((exW p r z).map D.str)
theorem qx:∀ L:List (Int × Int),io (L.map plD)=some L
 | []=>rfl
 | q::L=>by
  show (io (L.map plD)).map ((q.1,q.2)::·)=_
  rw [qx L];rfl
theorem sN {β:Type} (T:List (Int × Int)) (h:Int × Int->Option β):(List.range T.length).findSome? (fun c=>h (T.getD c (0,0)))=T.findSome? h:=by
 have e:=ng (fun q:Int × Int=>q) T (0,0)
 rw [List.map_id'] at e
 conv=>rhs;rw [<- e]
 rw [List.findSome?_map]
 rfl
theorem xP (T:List (Int × Int)) (c:Nat) (h:c < T.length):(T.map plD).getD c .non=plD (T.getD c (0,0)):=by simp [List.getD,h]
theorem xQ (T:List (Int × Int)) (c:Nat) (h:c < T.length):T[c]?=some (T.getD c (0,0)):=by simp [List.getD,h]
theorem wn (a:Ads) {m w:Nat} {p:Parts} (G:Good m w p) (h8:m <= 8) (hw:w <= 4) {r:Row} (ok:RowOk p p.starts r):gx a [.lst .f ((aV p r).map ay),.lst .f (aD r)]=.ok (ig (exD p r) (bV (aV p r))):=by
 obtain ⟨l1,l2,l3⟩:=gQ G hw ok
 have hlt:(aV p r).length=r.length:=by unfold aV;rw [List.length_map,l2]
 generalize htr:aV p r=tr at *
 have hl:tr.length < 900:=by lia
 have fi:bW (ac (fCB aR (ac (aa 0) af)) af) [some (.lst .f (tr.map ay)),some (.lst .f (aD r)),none,none,none,none,none,none,none]=.ok ((List.range tr.length).map fun (j:Nat)=>D.int (j:Int)):=by
  rw [<- qv]
  refine eh (ce ?_ gU) (by lia)
  have:=fw (j:=0) (ρ:=[some (.lst .f (tr.map ay)),some (.lst .f (aD r)),none,none,none,none,none,none,none]) rfl rfl
  rw [List.length_map] at this
  exact this
 have lp:=qk (gt:=av 2) (gb:=(bH (dN (ac (f2 dIx (aa 0) (aa 2)) af)) (bw [3,4]) (ao (aq 5 (fFz (aL 1 [0,2,4] (bW (ac (fCB aR (ac (aa 0) af)) af)) (av 0) (cW (ft2 dNe (aa 0) (aa 2)) (ft2 (dIn false) (aa 3) (f2 dIx (aa 1) (aa 0)))) (aa 0))))
 (gIf (ft2 dGt (fCB aR (ac (aa 5) af)) (fC (.int 0))) (ao (aq 6 (fFz (f2 dIx (aa 5) (fC (.int 0)))))
 (ao (aq 7 (fFz (iz (f2 dIx (aa 0) (aa 6)) (aa 4))))
 (ao (aq 8 (fCB bz (ac (aa 1) af)))
 (ao (eK 8 (aa 2) (f2 aP (fSl (f2 dIx (aa 1) (aa 2)) foN (foS (aa 3))) (fSl (f2 dIx (aa 1) (aa 6)) (foS (aa 7)) foN)))
 (ao (eK 8 (aa 6) (f2 aP (fSl (f2 dIx (aa 1) (aa 6)) foN (foS (aa 7))) (fSl (f2 dIx (aa 1) (aa 2)) (foS (aa 3)) foN)))
 (jF 8)))))) aC)))) (fun (j:Nat)=>D.int (j:Int)) (fun ρ=>∃ e2 e3 e4 e5 e6 e7 e8,ρ=[some (.lst .f (tr.map ay)),some (.lst .f (aD r)),e2,e3,e4,e5,e6,e7,e8]) (fun (i:Nat)=>((tr.getD i []).findSome? fun q=>(dG tr i q).map fun j=>(i,q,j)).map (exD p r)) (List.range tr.length) _ ⟨none,none,none,none,none,none,none,rfl⟩ (fun i hi ρ hpat=>by
     obtain ⟨e2,e3,e4,e5,e6,e7,e8,hρ⟩:=hpat
     subst hρ
     have hi:=List.mem_range.mp hi
     have hir:i < r.length:=by lia
     obtain ⟨_,ti,si,psi,vi,di⟩:=nq G h8 ok hir
     rw [htr] at ti
     refine ⟨[some (.lst .f (tr.map ay)),some (.lst .f (aD r)),some (.int (i:Int)),e3,e4,e5,e6,e7,e8],rfl,?_⟩
     have ix:dIx (.lst .f (tr.map ay)) (.int (i:Int))=.ok (ay (tr.getD i [])):=gy (x:=ay (tr.getD i [])) (by simp [List.getD,hi]) rfl
     have fi2:=iV (fa:=ac (f2 dIx (aa 0) (aa 2)) af) (ρ:=[some (.lst .f (tr.map ay)),some (.lst .f (aD r)),some (.int (i:Int)),e3,e4,e5,e6,e7,e8]) (xs:=(tr.getD i []).map plD) (ce (jT (x:=.lst .f (tr.map ay)) (y:=.int (i:Int)) rfl rfl ix) gU) (by rw [List.map_map];rfl)
     rw [List.length_map] at fi2
     have lp2:=qk (gt:=bw [3,4]) (gb:=(ao (aq 5 (fFz (aL 1 [0,2,4] (bW (ac (fCB aR (ac (aa 0) af)) af)) (av 0) (cW (ft2 dNe (aa 0) (aa 2)) (ft2 (dIn false) (aa 3) (f2 dIx (aa 1) (aa 0)))) (aa 0))))
 (gIf (ft2 dGt (fCB aR (ac (aa 5) af)) (fC (.int 0))) (ao (aq 6 (fFz (f2 dIx (aa 5) (fC (.int 0)))))
 (ao (aq 7 (fFz (iz (f2 dIx (aa 0) (aa 6)) (aa 4))))
 (ao (aq 8 (fCB bz (ac (aa 1) af)))
 (ao (eK 8 (aa 2) (f2 aP (fSl (f2 dIx (aa 1) (aa 2)) foN (foS (aa 3))) (fSl (f2 dIx (aa 1) (aa 6)) (foS (aa 7)) foN)))
 (ao (eK 8 (aa 6) (f2 aP (fSl (f2 dIx (aa 1) (aa 6)) foN (foS (aa 7))) (fSl (f2 dIx (aa 1) (aa 2)) (foS (aa 3)) foN)))
 (jF 8)))))) aC))) (fun (c:Nat)=>D.tup [.int (c:Int),((tr.getD i []).map plD).getD c .non]) (fun ρ=>∃ e3 e4 e5 e6 e7 e8,ρ=[some (.lst .f (tr.map ay)),some (.lst .f (aD r)),some (.int (i:Int)),e3,e4,e5,e6,e7,e8]) (fun c=>((dG tr i ((tr.getD i []).getD c (0,0))).map fun j=>(i,((tr.getD i []).getD c (0,0)),j)).map (exD p r)) (List.range (tr.getD i []).length) _ ⟨e3,e4,e5,e6,e7,e8,rfl⟩ (fun c hc ρ hpat=>by
         obtain ⟨e3,e4,e5,e6,e7,e8,hρ⟩:=hpat
         subst hρ
         have hc:=List.mem_range.mp hc
         have hgc:((tr.getD i []).map plD).getD c .non=plD ((tr.getD i []).getD c (0,0)):=xP _ c hc
         have hcq:(tr.getD i [])[c]?=some ((tr.getD i []).getD c (0,0)):=xQ _ c hc
         rw [hgc]
         generalize (tr.getD i []).getD c (0,0)=q at *
         refine ⟨[some (.lst .f (tr.map ay)),some (.lst .f (aD r)),some (.int (i:Int)),some (.int (c:Int)),some (plD q),e5,e6,e7,e8],rfl,?_⟩
         have co:=qO tr hl i q 0 2 4 [some (.lst .f (tr.map ay)),some (.lst .f (aD r)),some (.int (i:Int)),some (.int (c:Int)),some (plD q),e5,e6,e7,e8] rfl rfl rfl
         have fh:=qP tr.length i q tr rfl
         have fmem:∀ j ∈ ((List.range tr.length).filter fun j=>decide (j ≠ i) && decide (q ∈ tr.getD j [])),j < tr.length/\q ∈ tr.getD j []:=fun j hj=>by
          obtain ⟨h1,h2⟩:=List.mem_filter.mp hj
          simp at h2
          exact ⟨List.mem_range.mp h1,by simpa using h2.2⟩
         generalize hF:((List.range tr.length).filter fun j=>decide (j ≠ i) && decide (q ∈ tr.getD j []))=F at co fh fmem
         have fzF:(D.lst .o (F.map fun (j:Nat)=>D.int (j:Int))).fz=.lst .f (F.map fun (j:Nat)=>D.int (j:Int)):=by
          have:(F.map fun (j:Nat)=>D.int (j:Int))=(F.map fun (j:Nat)=>(j:Int)).map D.int:=by rw [List.map_map];rfl
          rw [this,gL]
         have s3:=fH (i:=5) (ρ:=[some (.lst .f (tr.map ay)),some (.lst .f (aD r)),some (.int (i:Int)),some (.int (c:Int)),some (plD q),e5,e6,e7,e8]) (d:=.lst .f (F.map fun (j:Nat)=>D.int (j:Int))) (iS co (ntb rfl) fzF) (ntb rfl) (by show 5 < 9;decide) (ρ':=[some (.lst .f (tr.map ay)),some (.lst .f (aD r)),some (.int (i:Int)),some (.int (c:Int)),some (plD q),some (.lst .f (F.map fun (j:Nat)=>D.int (j:Int))),e6,e7,e8]) rfl
         have tt:ft2 dGt (fCB aR (ac (aa 5) af)) (fC (.int 0)) [some (.lst .f (tr.map ay)),some (.lst .f (aD r)),some (.int (i:Int)),some (.int (c:Int)),some (plD q),some (.lst .f (F.map fun (j:Nat)=>D.int (j:Int))),e6,e7,e8]=.ok (decide (0 < (((F.map fun (j:Nat)=>D.int (j:Int)).length:Nat):Int))):=by (repeat' first  | sizeOf_list_dec)
         cases F with
         | nil =>
          rw [<- fh]
          exact ⟨_,aB s3 (b6 tt rfl rfl),_,_,_,_,_,_,rfl⟩
         | cons j F =>
          rw [<- fh]
          obtain ⟨hj,hqj⟩:=fmem j List.mem_cons_self
          have hjr:j < r.length:=by lia
          obtain ⟨_,tj,sj,psj,vj,dj⟩:=nq G h8 ok hjr
          rw [htr] at tj
          rw [tj] at hqj
          rw [ti] at hcq
          obtain ⟨gj,cj,kj⟩:=nU dj hqj
          obtain ⟨ci,ki⟩:=nk di hcq
          have hci:cutN (st0 p i) q=c:=by unfold cutN;lia
          have ix0:dIx (.lst .f ((j::F).map fun (j:Nat)=>D.int (j:Int))) (.int 0)=.ok (.int (j:Int)):=gy (k:=0) rfl rfl
          have ixj:dIx (.lst .f (tr.map ay)) (.int (j:Int))=.ok (ay (trk p (st0 p j) (rw0 r j))):=gy (x:=ay (trk p (st0 p j) (rw0 r j))) (by rw [<- tj];simp [List.getD,hj]) rfl
          have hxi:∀ e7 e8:Option D,iz (f2 dIx (aa 0) (aa 6)) (aa 4) [some (.lst .f (tr.map ay)),some (.lst .f (aD r)),some (.int (i:Int)),some (.int (c:Int)),some (plD q),some (.lst .f ((j::F).map fun (j:Nat)=>D.int (j:Int))),some (.int (j:Int)),e7,e8]=.ok (.int (cutN (st0 p j) q:Int)):=by
           intro e7 e8
           unfold iz
           rw [jT (fa:=aa 0) (fb:=aa 6) (x:=.lst .f (tr.map ay)) (y:=.int (j:Int)) rfl rfl ixj,bok]
           show (match io ((trk p (st0 p j) (rw0 r j)).map plD) with
            | some L=>_
            | none=>_)=_
           rw [qx]
           show (if q ∈ trk p (st0 p j) (rw0 r j)/\(trk p (st0 p j) (rw0 r j)).length <= 1000 then Res.ok (D.int ((trk p (st0 p j) (rw0 r j)).idxOf q:Nat)) else .bad)=_
           rw [if_pos ⟨hqj,by rw [rH dj];lia⟩,xO (uQ dj) gj]
          have cl:bz [.lst .f (aD r)]=.ok (.lst .o (aD r)):=by show Res.ok (D.lst .o ((aD r).map D.asF))=_;rw [gO]
          refine aB s3 (cD tt (by simp) (aB (ρ':=[some (.lst .f (tr.map ay)),some (.lst .f (aD r)),some (.int (i:Int)),some (.int (c:Int)),some (plD q),some (.lst .f ((j::F).map fun (j:Nat)=>D.int (j:Int))),some (.int (j:Int)),e7,e8]) (by (repeat' first | (with_reducible apply ix0) | sizeOf_list_dec)) (aB (ρ':=[some (.lst .f (tr.map ay)),some (.lst .f (aD r)),some (.int (i:Int)),some (.int (c:Int)),some (plD q),some (.lst .f ((j::F).map fun (j:Nat)=>D.int (j:Int))),some (.int (j:Int)),some (.int (cutN (st0 p j) q:Int)),e8]) (by (repeat' first | (with_reducible apply hxi) | sizeOf_list_dec)) (aB (ρ':=[some (.lst .f (tr.map ay)),some (.lst .f (aD r)),some (.int (i:Int)),some (.int (c:Int)),some (plD q),some (.lst .f ((j::F).map fun (j:Nat)=>D.int (j:Int))),some (.int (j:Int)),some (.int (cutN (st0 p j) q:Int)),some (.lst .o (aD r))]) (by (repeat' first | (with_reducible apply cl) | sizeOf_list_dec)) (aB (lu (k:=i) (xs:=aD r) rfl (nr (r:=r) (c:=1) (i:=2) (j:=6) (ci:=3) (cj:=7) rfl rfl rfl rfl rfl hir hjr si sj ki kj) rfl (by rw [gc];exact hir) (ntb rfl) rfl) (aB (lu (k:=j) (xs:=(aD r).set i (.str (fQ (rw0 r i) c ++ fS (rw0 r j) (cutN (st0 p j) q)))) rfl (nr (r:=r) (c:=1) (i:=6) (j:=2) (ci:=7) (cj:=3) rfl rfl rfl rfl rfl hjr hir sj si kj ki) rfl (by rw [List.length_set,gc];exact hjr) (ntb rfl) rfl) ?_))))))
          show _=FOut.rt (exD p r (i,q,j))
          have hE:exD p r (i,q,j)=D.lst .o (((aD r).set i (.str (fQ (rw0 r i) c ++ fS (rw0 r j) (cutN (st0 p j) q)))).set j (.str (fQ (rw0 r j) (cutN (st0 p j) q) ++ fS (rw0 r i) c))):=by
           unfold exD exW aD
           rw [hci,jY,jY]
          rw [hE]
          rfl)
     have e:((List.range (tr.getD i []).length).findSome? fun c=>((dG tr i ((tr.getD i []).getD c (0,0))).map fun j=>(i,((tr.getD i []).getD c (0,0)),j)).map (exD p r))=((tr.getD i []).findSome? fun q=>(dG tr i q).map fun j=>(i,q,j)).map (exD p r):=by
      rw [sN (tr.getD i []) fun q=>((dG tr i q).map fun j=>(i,q,j)).map (exD p r),List.map_findSome?];rfl
     rw [e] at lp2
     revert lp2
     cases ((tr.getD i []).findSome? fun q=>(dG tr i q).map fun j=>(i,q,j)) with
     | none =>
      rintro ⟨ρ',l1,e3',e4',e5',e6',e7',e8',rfl⟩
      exact ⟨_,bu fi2 l1,_,_,_,_,_,_,_,rfl⟩
     | some z=>intro l1;exact bu fi2 l1)
 have e:((List.range tr.length).findSome? fun (i:Nat)=>((tr.getD i []).findSome? fun q=>(dG tr i q).map fun j=>(i,q,j)).map (exD p r))=(bV tr).map (exD p r):=by
  unfold bV
  rw [List.map_findSome?];rfl
 rw [e] at lp
 refine dD (ρ:=[some (.lst .f (tr.map ay)),some (.lst .f (aD r)),none,none,none,none,none,none,none]) rfl ?_
 unfold mR
 revert lp
 cases bV tr with
 | none =>
  rintro ⟨ρ',l1,e2,e3,e4,e5,e6,e7,e8,rfl⟩
  exact aB (bu fi l1) rfl
 | some z=>intro l1;exact cQ (bu fi l1)
theorem qy {α:Type}:∀ M:List α,gp (M.map fun _=>D.bl true)=some (M.map fun _=>true)
 | []=>rfl
 | x::M=>by show (gp _).map (true::·)=_;rw [qy M];rfl
theorem uU (a:Ads) (L:List Str) (n:Int) (hl:L.length <= 1000):fu a [.lst .f (L.map D.str),.int n]=.ok (.bl (decide (((L.length:Nat):Int)=n))):=by
 refine dD (ρ:=[some (.lst .f (L.map D.str)),some (.int n)]) rfl ?_
 unfold kF
 have fi:=fI (f:=aa 0) (ρ:=[some (.lst .f (L.map D.str)),some (.int n)]) (xs:=L.map D.str) rfl (iU L)
 have cp:=jw (own:=1) (cap:=[]) (gt:=av 0) (fe:=f1 (lX "str") (aa 0)) (L:=L) D.str (fun x=>[some (.str x)]) (fun _=>.bl true) (fun ρ=>∃ e,ρ=[e]) fi ⟨none,rfl⟩ (fun x _=>⟨by rintro ρ ⟨e,rfl⟩;rfl,⟨_,rfl⟩,rfl,ntb rfl⟩) hl
 have al:fCB jc (ac (aL 1 [] (aJ (aa 0)) (av 0) a8 (f1 (lX "str") (aa 0))) af) [some (.lst .f (L.map D.str)),some (.int n)]=.ok (.bl true):=by
  refine sw (ce cp gU) ?_
  show (match gp (L.map fun _=>D.bl true) with
   | some bs=>Res.ok (D.bl (bs.all id))
   | none=>.bad)=_
  rw [qy]
  simp
 have ln:f2 dEq (fCB aR (ac (aa 0) af)) (aa 1) [some (.lst .f (L.map D.str)),some (.int n)]=.ok (.bl (decide (((L.length:Nat):Int)=n))):=by
  have:(L.map D.str).length=L.length:=List.length_map ..
  rw [<- this]
  (repeat' first  | sizeOf_list_dec)
 have:=sA (s:=f1 (lX "list") (aa 0)) (ρ:=[some (.lst .f (L.map D.str)),some (.int n)]) (b:=true) rfl (sA ln al)
 rw [iq this (ntb rfl)]
 simp
theorem qz (t t':Tg) (r:List Str):dNe (.lst t (r.map D.str)) (.lst t' (r.map D.str))=.ok (.bl false):=by
 have key:∀ L:List Str,dU (((L.map D.str).zip (L.map D.str)).map fun p=>a0 3 p.1 p.2)=some true:=by
  intro L
  induction L with
  | nil=>rfl
  | cons x L ih =>
   show (match dU (((L.map D.str).zip (L.map D.str)).map fun p=>a0 3 p.1 p.2) with
    | some c=>some (decide (x=x) && c)
    | none=>none)=_
   rw [ih];simp
 have e:a0 4 (.lst t (r.map D.str)) (.lst t' (r.map D.str))=some true:=by
  show (if (r.map D.str).length=(r.map D.str).length then dU (((r.map D.str).zip (r.map D.str)).map fun p=>a0 3 p.1 p.2) else some false)=_
  rw [if_pos rfl,key]
 unfold dNe
 rw [if_pos ⟨rfl,rfl⟩,e]
 rfl
noncomputable abbrev gb9 (a:Ads):ae->FOut:=(ao (aq 9 (fFz (fCB bz (ac (aa 6) af))))
 (ao (aq 10 (au 2 (dW a) (ac (aa 2) (ac (aa 9) af))))
 (ao (gIf (ft2 dNe (aa 9) (aa 6)) (aK (fC (.bl false))) aC)
 (ao (gIf (fV (ft2 (dS false) (aa 7) (fC .non)) (ft2 (dS false) (aa 10) (fC .non))) (aK (iH (f2 (dS false) (aa 7) (fC .non)) (f2 (dS false) (aa 10) (fC .non)))) aC)
 (ao (gIf (fV (bh (ftB (au 2 (fu a) (ac (aa 10) (ac (fCB aR (ac (aa 7) af)) af))))) (ft2 dNe (aa 10) (aa 7))) (aK (fC (.bl false))) aC)
 (c7 10 (fC (.str "r"))))))))
theorem xR (p:Parts) (r:Row) (z:Nat × (Int × Int) × Nat):(exW p r z).length=r.length:=by unfold exW;simp
theorem main (a:Ads) (ns:List Int) (h:ns.length <= 63):o8 a [.scr ns]=.ok (.bl true):=by
 obtain ⟨p,G,d,hp,rfl⟩:=vR a ns 4 3 8 (by decide) (by decide) (by decide) (by decide)
 have hp:de a [.scr ns,.int 4,.int 3,.int 8]=.ok p.d:=hp
 have nt:=xE a (by decide) (by decide) G
 refine dD (ρ:=[some (.scr ns),none,none,none,none,none,none,none,none,none,none]) rfl ?_
 unfold g_law
 refine aB (ρ':=[some (.scr ns),some p.d,none,none,none,none,none,none,none,none,none]) (by (repeat' first | (with_reducible apply hp) | sizeOf_list_dec)) (aB (ρ':=[some (.scr ns),some p.d,some (aH a p),none,none,none,none,none,none,none,none]) (by (repeat' first | (with_reducible apply nt) | sizeOf_list_dec)) ?_)
 rcases oW a G (by decide) (by decide) 400 (by decide) with ⟨_,hc⟩ | ⟨R,_,hc,hR,hl⟩
 ·have hc:ck a [p.d,.int 400]=.ok .non:=hc
  refine aB (ρ':=[some (.scr ns),some p.d,some (aH a p),some .non,none,none,none,none,none,none,none]) (by (repeat' first | (with_reducible apply hc) | sizeOf_list_dec)) (cQ (cD (b:=true) (Ce ?_) rfl rfl))
  rfl
 ·have hc:ck a [p.d,.int 400]=.ok (.lst .f (R.map bf)):=hc
  have fR:(D.lst .f (R.map bf)).fz=.lst .f (R.map bf):=by rw [aE,jV]
  refine aB (ρ':=[some (.scr ns),some p.d,some (aH a p),some (.lst .f (R.map bf)),none,none,none,none,none,none,none]) (by (repeat' first | (with_reducible apply hc) | (with_reducible apply fR) | sizeOf_list_dec)) ?_
  have tt:fV (ft2 (dS false) (aa 3) (fC .non)) (ft2 dEq (fCB aR (ac (aa 3) af)) (fC (.int 0))) [some (.scr ns),some p.d,some (aH a p),some (.lst .f (R.map bf)),none,none,none,none,none,none,none]=.ok (false || decide ((((R.map bf).length:Nat):Int)=0)):=vT rfl (by (repeat' first  | sizeOf_list_dec))
  by_cases h0:R=[]
  ·subst h0
   exact cQ (cD tt rfl rfl)
  ·have hp:=List.length_pos_iff.mpr h0
   refine aB (b6 tt (by simp;lia) rfl) (aB (wg _ _ _ _ R _ hl) ?_)
   obtain ⟨Rs,e5,b1,h1,hl1,hRs⟩:=uP a G (by decide) (by decide) ns (some (aH a p)) (some (.lst .f (R.map bf))) none R hR hl h0 [none,none,none,none,none]
   obtain ⟨r,hr,b2⟩:=wj a (p:=p) ns (some p.d) (some (aH a p)) (some (.lst .f (R.map bf))) e5 none Rs h1 [none,none,none,none]
   have ok:=hRs r hr
   refine aB b1 (aB b2 ?_)
   have pl:=nc a G (by decide) (by decide) ok
   obtain ⟨l1,l2,l3⟩:=gQ G (by decide) ok
   have du:=wn a G (by decide) (by decide) ok
   have fm:=uT a G (by decide) (by decide) ok
   have ft:(D.lst .o ((aV p r).map ay)).fz=.lst .f ((aV p r).map ay):=by rw [aE,gP]
   have fz1:(ig (exD p r) (bV (aV p r))).fz=ig (fun z=>.lst .f ((exW p r z).map D.str)) (bV (aV p r)):=by cases bV (aV p r) with | none=>exact bP | some z=>exact (show (D.lst .o _).fz=_ by rw [aE,gN];rfl)
   have nb1:(ig (exD p r) (bV (aV p r))).tag ≠ .b:=by cases bV (aV p r) with | none=>exact ntb rfl | some z=>exact ntb rfl
   have nb2:(ig (fun z=>D.lst .f ((exW p r z).map D.str)) (bV (aV p r))).tag ≠ .b:=by cases bV (aV p r) with | none=>exact ntb rfl | some z=>exact ntb rfl
   have s7:aq 7 (fFz (au 2 (gx a) (ac (au 2 (cg a) (ac (aa 1) (ac (aa 6) af))) (ac (aa 6) af)))) [some (.scr ns),some p.d,some (aH a p),some (.lst .f (R.map bf)),some (.lst .f (Rs.map coD)),e5,some (coD r),none,none,none,none]=.nx [some (.scr ns),some p.d,some (aH a p),some (.lst .f (R.map bf)),some (.lst .f (Rs.map coD)),e5,some (coD r),some (ig (fun z=>.lst .f ((exW p r z).map D.str)) (bV (aV p r))),none,none,none]:=
    fH (iS (hZ (ds:=[.lst .o ((aV p r).map ay),coD r]) (ce (hZ (ds:=[p.d,coD r]) rfl rfl (bS (lq p) (bS (jX r) ax)) pl (.inl ⟨rfl,ntb rfl⟩)) (ce rfl gU)) rfl (bS ft (bS (jX r) ax)) du (.inl ⟨rfl,nb1⟩)) nb1 fz1) nb2 (by show 7 < 11;decide) rfl
   refine aB s7 ?_
   have cl:bz [coD r]=.ok (.lst .o (aD r)):=by show Res.ok (D.lst .o ((aD r).map D.asF))=_;rw [gO]
   have fi:bW (ac (fC (.int 2)) af) [some (.scr ns),some p.d,some (aH a p),some (.lst .f (R.map bf)),some (.lst .f (Rs.map coD)),e5,some (coD r),some (ig (fun z=>.lst .f ((exW p r z).map D.str)) (bV (aV p r))),none,none,none]=.ok ((List.range 2).map fun (j:Nat)=>D.int (j:Int)):=by
    rw [<- qv];exact eh (n:=2) rfl (by decide)
   have t9:∀ (dd e8 e9 e10:Option D),aq 9 (fFz (fCB bz (ac (aa 6) af))) [some (.scr ns),some p.d,some (aH a p),some (.lst .f (R.map bf)),some (.lst .f (Rs.map coD)),e5,some (coD r),dd,e8,e9,e10]=.nx [some (.scr ns),some p.d,some (aH a p),some (.lst .f (R.map bf)),some (.lst .f (Rs.map coD)),e5,some (coD r),dd,e8,some (coD r),e10]:=fun dd e8 e9 e10 =>
    fH (d:=coD r) (iS (sw (x:=[coD r]) rfl cl) (ntb rfl) (iC .o r)) (ntb rfl) (by show 9 < 11;decide) rfl
   have tn:∀ (dd e8 e10:Option D),ft2 dNe (aa 9) (aa 6) [some (.scr ns),some p.d,some (aH a p),some (.lst .f (R.map bf)),some (.lst .f (Rs.map coD)),e5,some (coD r),dd,e8,some (coD r),e10]=.ok false:=fun dd e8 e10=>t_2 (x:=coD r) (y:=coD r) rfl rfl (qz .f .f _)
   cases hf:bV (aV p r) with
   | none =>
    rw [hf] at fm fi
    have fm:dW a [aH a p,coD r]=.ok .non:=fm
    refine cQ (bu fi ?_)
    refine mZ (ρ1:=[some (.scr ns),some p.d,some (aH a p),some (.lst .f (R.map bf)),some (.lst .f (Rs.map coD)),e5,some (coD r),some .non,some (.int (0:Nat)),none,none]) rfl ?_
    refine aB (t9 _ _ _ _) (aB (fH (i:=10) (d:=.non) (hZ (ds:=[aH a p,coD r]) rfl rfl (bS (bK _ _ _) (bS (jX r) ax)) fm (.inr rfl)) (ntb rfl) (by show 10 < 11;decide) (ρ':=[some (.scr ns),some p.d,some (aH a p),some (.lst .f (R.map bf)),some (.lst .f (Rs.map coD)),e5,some (coD r),some .non,some (.int (0:Nat)),some (coD r),some .non]) rfl) (aB (b6 (tn _ _ _) rfl rfl) (cQ (cD (b:=true) rfl rfl rfl))))
   | some z =>
    rw [hf] at fm fi
    have fm:dW a [aH a p,coD r]=.ok (.lst .o ((exW p r z).map D.str)):=fm
    have xl:=xR p r z
    have lt:=uU a (exW p r z) ((((exW p r z).map D.str).length:Nat):Int) (by lia)
    have lpX:=wa (gt:=av 8) (gb:=gb9 a) (fun (j:Nat)=>D.int (j:Int)) (fun (_:Unit) ρ=>∃ e8 e9 e10,ρ=[some (.scr ns),some p.d,some (aH a p),some (.lst .f (R.map bf)),some (.lst .f (Rs.map coD)),e5,some (coD r),some (.lst .f ((exW p r z).map D.str)),e8,e9,e10]) (fun _ _=>()) (List.range 2) () _ ⟨none,none,none,rfl⟩ (fun k hk _ ρ hpat=>by
     obtain ⟨e8,e9,e10,hρ⟩:=hpat
     subst hρ
     refine ⟨[some (.scr ns),some p.d,some (aH a p),some (.lst .f (R.map bf)),some (.lst .f (Rs.map coD)),e5,some (coD r),some (.lst .f ((exW p r z).map D.str)),some (.int (k:Int)),e9,e10],rfl,?_⟩
     refine ⟨_,aB (t9 _ _ _ _) (aB (fH (i:=10) (d:=.lst .o ((exW p r z).map D.str)) (hZ (ds:=[aH a p,coD r]) rfl rfl (bS (bK _ _ _) (bS (jX r) ax)) fm (.inl ⟨rfl,ntb rfl⟩)) (ntb rfl) (by show 10 < 11;decide) (ρ':=[some (.scr ns),some p.d,some (aH a p),some (.lst .f (R.map bf)),some (.lst .f (Rs.map coD)),e5,some (coD r),some (.lst .f ((exW p r z).map D.str)),some (.int (k:Int)),some (coD r),some (.lst .o ((exW p r z).map D.str))]) rfl) (aB (b6 (tn _ _ _) rfl rfl) (aB (b6 (b:=false) rfl rfl rfl) (aB (b6 (b:=(!decide (((exW p r z).length:Int)=((((exW p r z).map D.str).length:Nat):Int)) || false)) (vT (sC (t_B ?_)) (t_2 (x:=.lst .b ((exW p r z).map D.str)) (y:=.lst .f ((exW p r z).map D.str)) rfl rfl (qz _ _ _))) (by simp) rfl) (mY (xs:=(exW p r z).map D.str) rfl v_C (ntb rfl) (by simp;lia) rfl))))),_,_,_,rfl⟩
     exact hZ (ds:=[.lst .b ((exW p r z).map D.str),.int ((((exW p r z).map D.str).length:Nat):Int)]) rfl rfl (bS (by rw [aE,gN]) (bS (aw _) ax)) lt (.inr rfl))
    obtain ⟨ρ',lp,e8,e9,e10,rfl⟩:=lpX
    exact aB (bu fi lp) rfl
end Lw
open PySem PySem.W PyProof.Rows
set_option maxRecDepth 100000 in
set_option maxHeartbeats 0 in
theorem PySem.Challenge.cw_lonewalks_k09_tails_exchanged_holds : PySem.Challenge.rw_lonewalks_k09_tails_exchanged.Holds := by
 w_on;o_law
 refine holds_open (q:=Lw.vw) (loose:=[]) (Xt:=fun s=>xlAt Lw.vw [] s && recOk (RowW.records (OpenRow.toRowW (OpenLaw.row PySem.Challenge.rw_lonewalks_k09_tails_exchanged))) s) (XP:=XL Lw.vw []) (Yf:=Hook.obs (kHook Lw.khK Lw.pU (fun _=>by kernel_rfl))) (Ya:=Hook.val (kHook Lw.khK Lw.pU (fun _=>by kernel_rfl))) (YP:=Hook.says (kHook Lw.khK Lw.pU (fun _=>by kernel_rfl))) (N:=Lw.khN) Lw.left (Hook.of _) (Hook.keeps _) (fun s e=>xl_of s (Bool.and_eq_true_iff.mp e).1) XL.keeps (by rfl) (by rfl) (by rfl) (fun s e=>recFacts_of (Bool.and_eq_true_iff.mp e).2) (by rfl) (by assumption) (by decide +kernel) ⟨rfl,rfl,rfl,rfl,rfl,by decide +kernel⟩ ?hw ?hc
 case hw=>w_witness2
 k_fill
 refine Mi.Af (l:=PySem.Challenge.rw_lonewalks_k09_tails_exchanged) (n:=63) (k:=7) (x := "script") rfl (by decide) rfl ⟨rfl,by decide,by decide⟩ (fun w h Y=>PySem.W.kIn_of Y) ?F
 case F =>
  intro w mg fa h KX G hmg
  refine' Lw.zd Lw.main KX G hmg ?g_0 ?e_0 ?g_1 ?e_1 ?g_2 ?e_2 ?g_3 ?i_3 ?n_3 ?l_3 ?c_3 ?k_3 ?pg_3 ?hd_3 ?po_3 ?sa_3 ?mk_3 ?kc_3 ?na_Net_columns ?na_Net_ends ?na_Net_right ?na_Net_rows ?na_Net_starts ?na_Net_up ?U_19 ?U_20 ?U_18 ?U_27 ?U_32 ?U_28 ?U_29 ?U_31 ?U_21 ?U_22 ?U_30 ?U_26 ?U_24 ?U_33 ?U_23 ?U_5 ?U_9 ?U_13 ?U_15 ?U_11 ?U_10 ?U_14 ?U_17 ?U_4 ?U_6 ?U_12 ?U_8 ?U_16 ?U_7 ?g_law ?l_law ?c_law ?k_law ?b_all ?b_enumerate ?b_int ?b_isinstance ?b_len ?b_list ?b_max ?b_min ?b_range ?b_set ?b_sorted ?b_str ?b_zip ?v_MOST_SIDE ?v_MOST_WALKERS ?v_MOST_WEIGHT ?kt_list_NoneType ?kt_list_bool ?kt_list_int ?kt_list_str ?kt_list_list ?kt_list_tuple ?kt_list_dict ?kt_str_NoneType ?kt_str_bool ?kt_str_int ?kt_str_str ?kt_str_list ?kt_str_tuple ?kt_str_dict ?nl
  (case g_0=>k_is)
  (case e_0=>k_exc)
  (case g_1=>k_is)
  (case e_1=>k_exc)
  (case g_2=>k_is)
  (case e_2=>k_exc)
  (case g_3=>k_is)
  (case i_3=>k_is)
  (case n_3=>k_is)
  (case l_3=>k_is)
  (case c_3=>k_is)
  (case k_3=>k_is)
  (case pg_3=>k_is)
  (case hd_3=>k_is)
  (case po_3=>k_is)
  (case sa_3=>k_is)
  (case mk_3=>k_is)
  (case kc_3=>k_is)
  (case na_Net_columns=>k_is)
  (case na_Net_ends=>k_is)
  (case na_Net_right=>k_is)
  (case na_Net_rows=>k_is)
  (case na_Net_starts=>k_is)
  (case na_Net_up=>k_is)
  (case U_19=>refine' Mi.bO KX G ?_ ?_ ?_ ?_ (fun _ _ _ _ _ _=>Lw.ar1 fun _=>rfl) <;> try k_is)
  (case U_20=>refine' Mi.bO KX G ?_ ?_ ?_ ?_ (fun _ _ _ _ _ _=>Lw.ar3 fun _ _ _=>rfl) <;> try k_is)
  (case U_18=>refine' Mi.bO KX G ?_ ?_ ?_ ?_ (fun _ _ _ _ _ _=>Lw.ar2 fun _ _=>rfl) <;> try k_is)
  (case U_27=>refine' Mi.bO KX G ?_ ?_ ?_ ?_ (fun _ _ _ _ _ _=>Lw.ar3 fun _ _ _=>rfl) <;> try k_is)
  (case U_32=>refine' Mi.bO KX G ?_ ?_ ?_ ?_ (fun _ _ _ _ _ _=>Lw.ar4 fun _ _ _ _=>rfl) <;> try k_is)
  (case U_28=>refine' Mi.bO KX G ?_ ?_ ?_ ?_ (fun _ _ _ _ _ _=>Lw.ar3 fun _ _ _=>rfl) <;> try k_is)
  (case U_29=>refine' Mi.bO KX G ?_ ?_ ?_ ?_ (fun _ _ _ _ _ _=>Lw.ar4 fun _ _ _ _=>rfl) <;> try k_is)
  (case U_31=>refine' Mi.bO KX G ?_ ?_ ?_ ?_ (fun _ _ _ _ _ _=>Lw.ar3 fun _ _ _=>rfl) <;> try k_is)
  (case U_21=>refine' Mi.bO KX G ?_ ?_ ?_ ?_ (fun _ _ _ _ _ _=>Lw.ar2 fun _ _=>rfl) <;> try k_is)
  (case U_22=>refine' Mi.bO KX G ?_ ?_ ?_ ?_ (fun _ _ _ _ _ _=>Lw.ar2 fun _ _=>rfl) <;> try k_is)
  (case U_30=>refine' Mi.bO KX G ?_ ?_ ?_ ?_ (fun _ _ _ _ _ _=>Lw.ar2 fun _ _=>rfl) <;> try k_is)
  (case U_26=>refine' Mi.bO KX G ?_ ?_ ?_ ?_ (fun _ _ _ _ _ _=>Lw.ar3 fun _ _ _=>rfl) <;> try k_is)
  (case U_24=>refine' Mi.bO KX G ?_ ?_ ?_ ?_ (fun _ _ _ _ _ _=>Lw.ar2 fun _ _=>rfl) <;> try k_is)
  (case U_33=>refine' Mi.bO KX G ?_ ?_ ?_ ?_ (fun _ _ _ _ _ _=>Lw.ar3 fun _ _ _=>rfl) <;> try k_is)
  (case U_23=>refine' Mi.bO KX G ?_ ?_ ?_ ?_ (fun _ _ _ _ _ _=>Lw.ar2 fun _ _=>rfl) <;> try k_is)
  (case U_5=>refine' Mi.bO KX G ?_ ?_ ?_ ?_ (fun _ _ _ _ _ _=>Lw.ar2 fun _ _=>rfl) <;> try k_is)
  (case U_9=>refine' Mi.bO KX G ?_ ?_ ?_ ?_ (fun _ _ _ _ _ _=>Lw.ar3 fun _ _ _=>rfl) <;> try k_is)
  (case U_13=>refine' Mi.bO KX G ?_ ?_ ?_ ?_ (fun _ _ _ _ _ _=>Lw.ar3 fun _ _ _=>rfl) <;> try k_is)
  (case U_15=>refine' Mi.bO KX G ?_ ?_ ?_ ?_ (fun _ _ _ _ _ _=>Lw.ar3 fun _ _ _=>rfl) <;> try k_is)
  (case U_11=>refine' Mi.bO KX G ?_ ?_ ?_ ?_ (fun _ _ _ _ _ _=>Lw.ar4 fun _ _ _ _=>rfl) <;> try k_is)
  (case U_10=>refine' Mi.bO KX G ?_ ?_ ?_ ?_ (fun _ _ _ _ _ _=>Lw.ar1 fun _=>rfl) <;> try k_is)
  (case U_14=>refine' Mi.bO KX G ?_ ?_ ?_ ?_ (fun _ _ _ _ _ _=>Lw.ar4 fun _ _ _ _=>rfl) <;> try k_is)
  (case U_17=>refine' Mi.bO KX G ?_ ?_ ?_ ?_ (fun _ _ _ _ _ _=>Lw.ar4 fun _ _ _ _=>rfl) <;> try k_is)
  (case U_4=>refine' Mi.bO KX G ?_ ?_ ?_ ?_ (fun _ _ _ _ _ _=>Lw.ar3 fun _ _ _=>rfl) <;> try k_is)
  (case U_6=>refine' Mi.bO KX G ?_ ?_ ?_ ?_ (fun _ _ _ _ _ _=>Lw.ar2 fun _ _=>rfl) <;> try k_is)
  (case U_12=>refine' Mi.bO KX G ?_ ?_ ?_ ?_ (fun _ _ _ _ _ _=>Lw.ar2 fun _ _=>rfl) <;> try k_is)
  (case U_8=>refine' Mi.bO KX G ?_ ?_ ?_ ?_ (fun _ _ _ _ _ _=>Lw.ar1 fun _=>rfl) <;> try k_is)
  (case U_16=>refine' Mi.bO KX G ?_ ?_ ?_ ?_ (fun _ _ _ _ _ _=>Lw.ar2 fun _ _=>rfl) <;> try k_is)
  (case U_7=>refine' Mi.bO KX G ?_ ?_ ?_ ?_ (fun _ _ _ _ _ _=>Lw.ar2 fun _ _=>rfl) <;> try k_is)
  (case g_law=>k_is)
  (case l_law=>k_is)
  (case c_law=>k_is)
  (case k_law=>k_is)
  (case b_all=>k_is)
  (case b_enumerate=>k_is)
  (case b_int=>k_is)
  (case b_isinstance=>k_is)
  (case b_len=>k_is)
  (case b_list=>k_is)
  (case b_max=>k_is)
  (case b_min=>k_is)
  (case b_range=>k_is)
  (case b_set=>k_is)
  (case b_sorted=>k_is)
  (case b_str=>k_is)
  (case b_zip=>k_is)
  (case v_MOST_SIDE=>k_is)
  (case v_MOST_WALKERS=>k_is)
  (case v_MOST_WEIGHT=>k_is)
  (case kt_list_NoneType=>kit_is)
  (case kt_list_bool=>kit_is)
  (case kt_list_int=>kit_is)
  (case kt_list_str=>kit_is)
  (case kt_list_list=>kit_is)
  (case kt_list_tuple=>kit_is)
  (case kt_list_dict=>kit_is)
  (case kt_str_NoneType=>kit_is)
  (case kt_str_bool=>kit_is)
  (case kt_str_int=>kit_is)
  (case kt_str_str=>kit_is)
  (case kt_str_list=>kit_is)
  (case kt_str_tuple=>kit_is)
  (case kt_str_dict=>kit_is)
  (case nl=>(first | rfl | decide | (with_unfolding_all rfl)))
