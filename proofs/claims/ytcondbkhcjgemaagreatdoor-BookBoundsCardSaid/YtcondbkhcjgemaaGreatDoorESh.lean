import Derived.Shelf.Small.Bits
import Derived.Shelf.Strconv.Atoi
import Derived.Shelf.Strconv.Itoa0
import Derived.Shelf.Strconv.Itoa1
import Derived.Shelf.LaysM
import Derived.Shelf.Strconv.Itoa2
import Derived.Shelf.Strconv.Itoa3
import Derived.Shelf.Strconv.AtoiErrFast
import Derived.Shelf.Strconv.ParseIntEmpty
import Derived.Shelf.Strconv.AtoiFail
import Derived.Shelf.Strconv.Clone
import Derived.Shelf.Strconv.SyntaxError
import Derived.Shelf.LaysC
import Derived.Shelf.Strconv.ToError
import Derived.Shelf.Strconv.Lower
import Derived.Shelf.Strconv.ParseUint10
import Derived.Shelf.Strconv.ParseUint10Empty
import Derived.Shelf.Strconv.ParseUint10Any
import Derived.Shelf.Strconv.ParseInt10
import Derived.Shelf.Strconv.AtoiLong
import Derived.Shelf.Strconv.AtoiInnerAll
import Derived.Shelf.Strconv.RangeError
import Derived.Shelf.Strconv.ToErrorRange
import Derived.Shelf.Strconv.AtoiAll
import Derived.Shelf.Strconv.ErrVarAll
import Derived.Shelf.Strings.Search1
import Derived.Shelf.Strings.Search2
import Derived.Shelf.Strings.Cut
import Derived.Shelf.Strings.Shaped
import Derived.Test.YtcondbkhcjgemaaGreatDoorProg
import Derived.Test.YtcondbkhcjgemaaGreatDoorRows
namespace Go.Proofs
open Go.Shelf Go.RowKit Go.Lib Go.Sort
abbrev nmPow:String:=match YtcondbkhcjgemaaGreatDoor.Rows.bookTextsRow.laid with | _ :: _ :: x :: _=>x.1 | _ => ""
def Tryz.lays128_ren:Go.Shelf.Ren:=⟨fun | 128=>181 | n=>n,fun | 51=>234 | 3=>3 | 4=>4 | 46=>223 | 5=>5 | 9=>9 | n=>n,fun | n=>n⟩
def Tryz.lays125_ren:Go.Shelf.Ren:=⟨fun | 125=>167 | 128=>181 | 129=>182 | n=>n,fun | 46=>223 | 3=>3 | 51=>234 | 53=>236 | 4=>4 | 5=>5 | 9=>9 | n=>n,fun | n=>n⟩
def Tryz.lays244_ren:Go.Shelf.Ren:=⟨fun | 244=>171 | 247=>188 | 287=>206 | 321=>214 | 322=>215 | n=>n,fun | 9=>9 | 3=>3 | 75=>218 | 4=>4 | 5=>5 | 167=>242 | 37=>148 | 0=>0 | 85=>243 | 2=>2 | 53=>236 | 175=>259 | 46=>223 | 21=>21 | 80=>171 | n=>n,fun | n=>n⟩
def Tryz.lays172_ren:Go.Shelf.Ren:=⟨fun | 172=>163 | 244=>171 | 245=>172 | 247=>188 | 279=>189 | 280=>190 | 281=>191 | 282=>192 | 287=>206 | 316=>207 | 171=>142 | 205=>208 | 321=>214 | 322=>215 | 243=>161 | 246=>169 | 283=>183 | 284=>184 | 285=>185 | 286=>186 | 129=>182 | 317=>198 | 318=>199 | 319=>200 | 320=>201 | 337=>210 | 338=>211 | n=>n,fun | 9=>9 | 3=>3 | 75=>218 | 76=>219 | 4=>4 | 5=>5 | 167=>242 | 37=>148 | 0=>0 | 85=>243 | 2=>2 | 168=>245 | 53=>236 | 175=>259 | 46=>223 | 210=>262 | 127=>270 | 145=>273 | 143=>271 | 21=>21 | 171=>237 | 173=>239 | 212=>256 | 51=>234 | 20=>20 | 213=>257 | 232=>274 | 233=>275 | 80=>171 | n=>n,fun | 15=>2 | 16=>3 | 17=>0 | 18=>4 | 19=>5 | n=>n⟩
def Tryz.lays129_ren:Go.Shelf.Ren:=⟨fun | 129=>182 | n=>n,fun | 53=>236 | 3=>3 | 4=>4 | 46=>223 | 5=>5 | 9=>9 | n=>n,fun | n=>n⟩
def Tryz.lays317_ren:Go.Shelf.Ren:=⟨fun | 317=>198 | n=>n,fun | 3=>3 | 46=>223 | n=>n,fun | n=>n⟩
def Tryz.lays318_ren:Go.Shelf.Ren:=⟨fun | 318=>199 | n=>n,fun | 3=>3 | 4=>4 | n=>n,fun | n=>n⟩
def Tryz.lays283_ren:Go.Shelf.Ren:=⟨fun | 283=>183 | n=>n,fun | 3=>3 | 9=>9 | 4=>4 | n=>n,fun | n=>n⟩
def Tryz.laysM284_ren:Go.Shelf.Ren:=⟨fun | 284=>184 | 129=>182 | 317=>198 | 318=>199 | n=>n,fun | 53=>236 | 3=>3 | 212=>256 | 0=>0 | 4=>4 | 46=>223 | 5=>5 | 9=>9 | n=>n,fun | 17=>0 | n=>n⟩
def Tryz.lays285_ren:Go.Shelf.Ren:=⟨fun | 285=>185 | n=>n,fun | 37=>148 | 53=>236 | 3=>3 | 4=>4 | 51=>234 | 9=>9 | 5=>5 | 0=>0 | n=>n,fun | n=>n⟩
def Tryz.laysM246_ren:Go.Shelf.Ren:=⟨fun | 246=>169 | 283=>183 | 284=>184 | 285=>185 | 286=>186 | 129=>182 | 317=>198 | 318=>199 | 319=>200 | 320=>201 | 337=>210 | 338=>211 | n=>n,fun | 2=>2 | 3=>3 | 9=>9 | 4=>4 | 171=>237 | 0=>0 | 53=>236 | 37=>148 | 5=>5 | 173=>239 | 212=>256 | 51=>234 | 20=>20 | 213=>257 | 46=>223 | 232=>274 | 233=>275 | n=>n,fun | 17=>0 | 18=>4 | 19=>5 | n=>n⟩
def Tryz.lays246_ren:Go.Shelf.Ren:=⟨fun | 246=>169 | 283=>183 | 284=>184 | 285=>185 | 286=>186 | 129=>182 | 317=>198 | 318=>199 | 319=>200 | 320=>201 | 337=>210 | 338=>211 | n=>n,fun | 2=>2 | 3=>3 | 9=>9 | 4=>4 | 171=>237 | 0=>0 | 53=>236 | 37=>148 | 5=>5 | 173=>239 | 212=>256 | 51=>234 | 20=>20 | 213=>257 | 46=>223 | 232=>274 | 233=>275 | n=>n,fun | 17=>0 | 18=>4 | 19=>5 | n=>n⟩
def Tryz.laysM243_ren:Go.Shelf.Ren:=⟨fun | 243=>161 | 246=>169 | 283=>183 | 284=>184 | 285=>185 | 286=>186 | 129=>182 | 317=>198 | 318=>199 | 319=>200 | 320=>201 | 337=>210 | 338=>211 | n=>n,fun | 3=>3 | 9=>9 | 2=>2 | 4=>4 | 171=>237 | 0=>0 | 53=>236 | 37=>148 | 5=>5 | 173=>239 | 212=>256 | 51=>234 | 20=>20 | 213=>257 | 46=>223 | 232=>274 | 233=>275 | n=>n,fun | 17=>0 | 18=>4 | 19=>5 | n=>n⟩
def Tryz.lays243_ren:Go.Shelf.Ren:=⟨fun | 243=>161 | 246=>169 | 283=>183 | 284=>184 | 285=>185 | 286=>186 | 129=>182 | 317=>198 | 318=>199 | 319=>200 | 320=>201 | 337=>210 | 338=>211 | n=>n,fun | 3=>3 | 9=>9 | 2=>2 | 4=>4 | 171=>237 | 0=>0 | 53=>236 | 37=>148 | 5=>5 | 173=>239 | 212=>256 | 51=>234 | 20=>20 | 213=>257 | 46=>223 | 232=>274 | 233=>275 | n=>n,fun | 17=>0 | 18=>4 | 19=>5 | n=>n⟩
def Tryz.laysM171_ren:Go.Shelf.Ren:=⟨fun | 171=>142 | 243=>161 | 246=>169 | 283=>183 | 284=>184 | 285=>185 | 286=>186 | 129=>182 | 317=>198 | 318=>199 | 319=>200 | 320=>201 | 337=>210 | 338=>211 | n=>n,fun | 3=>3 | 9=>9 | 2=>2 | 4=>4 | 171=>237 | 0=>0 | 53=>236 | 37=>148 | 5=>5 | 173=>239 | 212=>256 | 51=>234 | 20=>20 | 213=>257 | 46=>223 | 232=>274 | 233=>275 | n=>n,fun | 17=>0 | 18=>4 | 19=>5 | n=>n⟩
theorem Tryz.laysM171:Go.Proofs.LaysM.n171 Tryz.prog Tryz.laysM171_ren:={
  mixed:=by kernel_rfl
  f129:=Tryz.func182.trans (congrArg some (by kernel_rfl))
  f171:=Tryz.func142.trans (congrArg some (by kernel_rfl))
  f243:=Tryz.func161.trans (congrArg some (by kernel_rfl))
  f246:=Tryz.func169.trans (congrArg some (by kernel_rfl))
  f283:=Tryz.func183.trans (congrArg some (by kernel_rfl))
  f284:=Tryz.func184.trans (congrArg some (by kernel_rfl))
  f285:=Tryz.func185.trans (congrArg some (by kernel_rfl))
  f286:=Tryz.func186.trans (congrArg some (by kernel_rfl))
  f317:=Tryz.func198.trans (congrArg some (by kernel_rfl))
  f318:=Tryz.func199.trans (congrArg some (by kernel_rfl))
  f319:=Tryz.func200.trans (congrArg some (by kernel_rfl))
  f320:=Tryz.func201.trans (congrArg some (by kernel_rfl))
  f337:=Tryz.func210.trans (congrArg some (by kernel_rfl))
  f338:=Tryz.func211.trans (congrArg some (by kernel_rfl))
  t0:=Tryz.underlying0
  a0:=Tryz.isAgg0
  z0:=Tryz.sizeOf0
  v0:=Tryz.zeroValue0
  t2:=Tryz.underlying2
  a2:=Tryz.isAgg2
  z2:=Tryz.sizeOf2
  v2:=Tryz.zeroValue2
  t3:=Tryz.underlying3
  a3:=Tryz.isAgg3
  z3:=Tryz.sizeOf3
  v3:=Tryz.zeroValue3
  t4:=Tryz.underlying4
  a4:=Tryz.isAgg4
  z4:=Tryz.sizeOf4
  v4:=Tryz.zeroValue4
  t5:=Tryz.underlying5
  a5:=Tryz.isAgg5
  z5:=Tryz.sizeOf5
  v5:=Tryz.zeroValue5
  t9:=Tryz.underlying9
  a9:=Tryz.isAgg9
  z9:=Tryz.sizeOf9
  v9:=Tryz.zeroValue9
  t20:=Tryz.underlying20
  a20:=Tryz.isAgg20
  z20:=Tryz.sizeOf20
  v20:=Tryz.zeroValue20
  t37:=Tryz.underlying148
  a37:=Tryz.isAgg148
  z37:=Tryz.sizeOf148
  v37:=Tryz.zeroValue148
  t46:=Tryz.underlying223
  a46:=Tryz.isAgg223
  z46:=Tryz.sizeOf223
  v46:=Tryz.zeroValue223
  t51:=Tryz.underlying234
  a51:=Tryz.isAgg234
  z51:=Tryz.sizeOf234
  v51:=Tryz.zeroValue234
  t53:=Tryz.underlying236
  a53:=Tryz.isAgg236
  z53:=Tryz.sizeOf236
  v53:=Tryz.zeroValue236
  t171:=Tryz.underlying237
  a171:=Tryz.isAgg237
  z171:=Tryz.sizeOf237
  v171:=Tryz.zeroValue237
  t173:=Tryz.underlying239
  a173:=Tryz.isAgg239
  z173:=Tryz.sizeOf239
  v173:=Tryz.zeroValue239
  t212:=Tryz.underlying256
  a212:=Tryz.isAgg256
  z212:=Tryz.sizeOf256
  v212:=Tryz.zeroValue256
  t213:=Tryz.underlying257
  a213:=Tryz.isAgg257
  z213:=Tryz.sizeOf257
  t232:=Tryz.underlying274
  a232:=Tryz.isAgg274
  z232:=Tryz.sizeOf274
  v232:=Tryz.zeroValue274
  t233:=Tryz.underlying275
  a233:=Tryz.isAgg275
  z233:=Tryz.sizeOf275
  v233:=Tryz.zeroValue275
  g17:=by kernel_rfl
  g18:=by kernel_rfl
  g19:=by kernel_rfl
  i0:=by kernel_rfl
  i2:=by kernel_rfl
  i3:=by kernel_rfl
  i4:=by kernel_rfl
  i5:=by kernel_rfl
  i9:=by kernel_rfl
  i20:=by kernel_rfl
  i37:=by kernel_rfl
  i46:=by kernel_rfl
  i51:=by kernel_rfl
  i53:=by kernel_rfl
  i171:=by kernel_rfl
  i173:=by kernel_rfl
  i212:=by kernel_rfl
  i232:=by kernel_rfl
  i233:=by kernel_rfl
  m17:=by kernel_rfl
  m18:=by kernel_rfl
  m19:=by kernel_rfl }
theorem Tryz.strconv_Itoa (n:Int) (h0:-9223372036854775808≤n) (h1:n≤9223372036854775807) (w:World) (htab:Lib.TabIs Tryz.prog w nmPow .u64 Lib.pow10Tab) :
    Calls Tryz.prog 142 #[.int .i64 n] w fun e w'=>e=.returned (.string ⟨(Lib.itoa n).toArray⟩)∧∃ k os,w'=grow (w.drewN k) os:=Any.strconv_Itoa Tryz.laysM171 n h0 h1 w htab
def Tryz.lays171_ren:Go.Shelf.Ren:=⟨fun | 171=>142 | 243=>161 | 246=>169 | 283=>183 | 284=>184 | 285=>185 | 286=>186 | 129=>182 | 317=>198 | 318=>199 | 319=>200 | 320=>201 | 337=>210 | 338=>211 | n=>n,fun | 3=>3 | 9=>9 | 2=>2 | 4=>4 | 171=>237 | 0=>0 | 53=>236 | 37=>148 | 5=>5 | 173=>239 | 212=>256 | 51=>234 | 20=>20 | 213=>257 | 46=>223 | 232=>274 | 233=>275 | n=>n,fun | 17=>0 | 18=>4 | 19=>5 | n=>n⟩
def Tryz.lays247_ren:Go.Shelf.Ren:=⟨fun | 247=>188 | 287=>206 | 321=>214 | 322=>215 | n=>n,fun | 9=>9 | 3=>3 | 2=>2 | 75=>218 | 4=>4 | 167=>242 | 5=>5 | 53=>236 | 175=>259 | 46=>223 | 37=>148 | 0=>0 | 21=>21 | 80=>171 | n=>n,fun | n=>n⟩
def Tryz.laysM316_ren:Go.Shelf.Ren:=⟨fun | 316=>207 | n=>n,fun | 9=>9 | 3=>3 | 4=>4 | 37=>148 | 0=>0 | 127=>270 | 5=>5 | n=>n,fun | n=>n⟩
def Tryz.laysM279_ren:Go.Shelf.Ren:=⟨fun | 279=>189 | 316=>207 | n=>n,fun | 9=>9 | 168=>245 | 75=>218 | 210=>262 | 3=>3 | 4=>4 | 37=>148 | 0=>0 | 127=>270 | 80=>171 | 5=>5 | n=>n,fun | 15=>2 | n=>n⟩
def Tryz.laysC245_ren:Go.Shelf.Ren:=⟨fun | 245=>172 | 279=>189 | 280=>190 | 281=>191 | 282=>192 | 316=>207 | 171=>142 | 205=>208 | 243=>161 | 246=>169 | 283=>183 | 284=>184 | 285=>185 | 286=>186 | 129=>182 | 317=>198 | 318=>199 | 319=>200 | 320=>201 | 337=>210 | 338=>211 | n=>n,fun | 9=>9 | 3=>3 | 75=>218 | 167=>242 | 4=>4 | 168=>245 | 210=>262 | 37=>148 | 0=>0 | 127=>270 | 145=>273 | 143=>271 | 2=>2 | 171=>237 | 53=>236 | 5=>5 | 173=>239 | 212=>256 | 51=>234 | 20=>20 | 213=>257 | 46=>223 | 232=>274 | 233=>275 | 80=>171 | n=>n,fun | 15=>2 | 16=>3 | 17=>0 | 18=>4 | 19=>5 | n=>n⟩
def Tryz.lays321_ren:Go.Shelf.Ren:=⟨fun | 321=>214 | n=>n,fun | 5=>5 | n=>n,fun | n=>n⟩
def Tryz.lays287_ren:Go.Shelf.Ren:=⟨fun | 287=>206 | 321=>214 | 322=>215 | n=>n,fun | 9=>9 | 3=>3 | 53=>236 | 75=>218 | 4=>4 | 167=>242 | 5=>5 | 46=>223 | 37=>148 | 0=>0 | 21=>21 | 80=>171 | n=>n,fun | n=>n⟩
def Tryz.laysC247_ren:Go.Shelf.Ren:=⟨fun | 247=>188 | 287=>206 | 321=>214 | 322=>215 | n=>n,fun | 9=>9 | 3=>3 | 2=>2 | 75=>218 | 4=>4 | 167=>242 | 5=>5 | 53=>236 | 175=>259 | 46=>223 | 37=>148 | 0=>0 | 21=>21 | 80=>171 | n=>n,fun | n=>n⟩
def Tryz.laysC244_ren:Go.Shelf.Ren:=⟨fun | 244=>171 | 247=>188 | 287=>206 | 321=>214 | 322=>215 | n=>n,fun | 9=>9 | 3=>3 | 75=>218 | 4=>4 | 5=>5 | 167=>242 | 37=>148 | 0=>0 | 85=>243 | 2=>2 | 53=>236 | 175=>259 | 46=>223 | 21=>21 | 80=>171 | n=>n,fun | n=>n⟩
def Tryz.laysM280_ren:Go.Shelf.Ren:=⟨fun | 280=>190 | 316=>207 | n=>n,fun | 9=>9 | 168=>245 | 75=>218 | 210=>262 | 3=>3 | 4=>4 | 37=>148 | 0=>0 | 127=>270 | 80=>171 | 5=>5 | n=>n,fun | 16=>3 | n=>n⟩
def Tryz.laysC172_ren:Go.Shelf.Ren:=⟨fun | 172=>163 | 244=>171 | 245=>172 | 247=>188 | 279=>189 | 280=>190 | 281=>191 | 282=>192 | 287=>206 | 316=>207 | 171=>142 | 205=>208 | 321=>214 | 322=>215 | 243=>161 | 246=>169 | 283=>183 | 284=>184 | 285=>185 | 286=>186 | 129=>182 | 317=>198 | 318=>199 | 319=>200 | 320=>201 | 337=>210 | 338=>211 | n=>n,fun | 9=>9 | 3=>3 | 75=>218 | 76=>219 | 4=>4 | 5=>5 | 167=>242 | 37=>148 | 0=>0 | 85=>243 | 2=>2 | 168=>245 | 53=>236 | 175=>259 | 46=>223 | 210=>262 | 127=>270 | 145=>273 | 143=>271 | 21=>21 | 171=>237 | 173=>239 | 212=>256 | 51=>234 | 20=>20 | 213=>257 | 232=>274 | 233=>275 | 80=>171 | n=>n,fun | 15=>2 | 16=>3 | 17=>0 | 18=>4 | 19=>5 | n=>n⟩
theorem Tryz.laysC172:Go.Proofs.LaysC.n172 Tryz.prog Tryz.laysC172_ren:={
  mixed:=by kernel_rfl
  f129:=Tryz.func182.trans (congrArg some (by kernel_rfl))
  f171:=Tryz.func142.trans (congrArg some (by kernel_rfl))
  f172:=Tryz.func163.trans (congrArg some (by kernel_rfl))
  f205:=Tryz.func208.trans (congrArg some (by kernel_rfl))
  f243:=Tryz.func161.trans (congrArg some (by kernel_rfl))
  f244:=Tryz.func171.trans (congrArg some (by kernel_rfl))
  f245:=Tryz.func172.trans (congrArg some (by kernel_rfl))
  f246:=Tryz.func169.trans (congrArg some (by kernel_rfl))
  f247:=Tryz.func188.trans (congrArg some (by kernel_rfl))
  f279:=Tryz.func189.trans (congrArg some (by kernel_rfl))
  f280:=Tryz.func190.trans (congrArg some (by kernel_rfl))
  f281:=Tryz.func191.trans (congrArg some (by kernel_rfl))
  f282:=Tryz.func192.trans (congrArg some (by kernel_rfl))
  f283:=Tryz.func183.trans (congrArg some (by kernel_rfl))
  f284:=Tryz.func184.trans (congrArg some (by kernel_rfl))
  f285:=Tryz.func185.trans (congrArg some (by kernel_rfl))
  f286:=Tryz.func186.trans (congrArg some (by kernel_rfl))
  f287:=Tryz.func206.trans (congrArg some (by kernel_rfl))
  f316:=Tryz.func207.trans (congrArg some (by kernel_rfl))
  f317:=Tryz.func198.trans (congrArg some (by kernel_rfl))
  f318:=Tryz.func199.trans (congrArg some (by kernel_rfl))
  f319:=Tryz.func200.trans (congrArg some (by kernel_rfl))
  f320:=Tryz.func201.trans (congrArg some (by kernel_rfl))
  f321:=Tryz.func214.trans (congrArg some (by kernel_rfl))
  f322:=Tryz.func215.trans (congrArg some (by kernel_rfl))
  f337:=Tryz.func210.trans (congrArg some (by kernel_rfl))
  f338:=Tryz.func211.trans (congrArg some (by kernel_rfl))
  t0:=Tryz.underlying0
  a0:=Tryz.isAgg0
  z0:=Tryz.sizeOf0
  v0:=Tryz.zeroValue0
  t2:=Tryz.underlying2
  a2:=Tryz.isAgg2
  z2:=Tryz.sizeOf2
  v2:=Tryz.zeroValue2
  t3:=Tryz.underlying3
  a3:=Tryz.isAgg3
  z3:=Tryz.sizeOf3
  v3:=Tryz.zeroValue3
  t4:=Tryz.underlying4
  a4:=Tryz.isAgg4
  z4:=Tryz.sizeOf4
  v4:=Tryz.zeroValue4
  t5:=Tryz.underlying5
  a5:=Tryz.isAgg5
  z5:=Tryz.sizeOf5
  v5:=Tryz.zeroValue5
  t9:=Tryz.underlying9
  a9:=Tryz.isAgg9
  z9:=Tryz.sizeOf9
  v9:=Tryz.zeroValue9
  t20:=Tryz.underlying20
  a20:=Tryz.isAgg20
  z20:=Tryz.sizeOf20
  v20:=Tryz.zeroValue20
  t21:=Tryz.underlying21
  a21:=Tryz.isAgg21
  z21:=Tryz.sizeOf21
  v21:=Tryz.zeroValue21
  t37:=Tryz.underlying148
  a37:=Tryz.isAgg148
  z37:=Tryz.sizeOf148
  v37:=Tryz.zeroValue148
  t46:=Tryz.underlying223
  a46:=Tryz.isAgg223
  z46:=Tryz.sizeOf223
  v46:=Tryz.zeroValue223
  t51:=Tryz.underlying234
  a51:=Tryz.isAgg234
  z51:=Tryz.sizeOf234
  v51:=Tryz.zeroValue234
  t53:=Tryz.underlying236
  a53:=Tryz.isAgg236
  z53:=Tryz.sizeOf236
  v53:=Tryz.zeroValue236
  t75:=Tryz.underlying218
  a75:=Tryz.isAgg218
  z75:=Tryz.sizeOf218
  v75:=Tryz.zeroValue218
  t76:=Tryz.underlying219
  a76:=Tryz.isAgg219
  z76:=Tryz.sizeOf219
  v76:=Tryz.zeroValue219
  t85:=Tryz.underlying243
  a85:=Tryz.isAgg243
  z85:=Tryz.sizeOf243
  v85:=Tryz.zeroValue243
  t127:=Tryz.underlying270
  a127:=Tryz.isAgg270
  z127:=Tryz.sizeOf270
  v127:=Tryz.zeroValue270
  t143:=Tryz.underlying271
  a143:=Tryz.isAgg271
  z143:=Tryz.sizeOf271
  v143:=Tryz.zeroValue271
  t145:=Tryz.underlying273
  a145:=Tryz.isAgg273
  z145:=Tryz.sizeOf273
  v145:=Tryz.zeroValue273
  t167:=Tryz.underlying242
  a167:=Tryz.isAgg242
  z167:=Tryz.sizeOf242
  v167:=Tryz.zeroValue242
  t168:=Tryz.underlying245
  a168:=Tryz.isAgg245
  z168:=Tryz.sizeOf245
  v168:=Tryz.zeroValue245
  t171:=Tryz.underlying237
  a171:=Tryz.isAgg237
  z171:=Tryz.sizeOf237
  v171:=Tryz.zeroValue237
  t173:=Tryz.underlying239
  a173:=Tryz.isAgg239
  z173:=Tryz.sizeOf239
  v173:=Tryz.zeroValue239
  t175:=Tryz.underlying259
  a175:=Tryz.isAgg259
  z175:=Tryz.sizeOf259
  v175:=Tryz.zeroValue259
  t210:=Tryz.underlying262
  a210:=Tryz.isAgg262
  z210:=Tryz.sizeOf262
  v210:=Tryz.zeroValue262
  t212:=Tryz.underlying256
  a212:=Tryz.isAgg256
  z212:=Tryz.sizeOf256
  v212:=Tryz.zeroValue256
  t213:=Tryz.underlying257
  a213:=Tryz.isAgg257
  z213:=Tryz.sizeOf257
  t232:=Tryz.underlying274
  a232:=Tryz.isAgg274
  z232:=Tryz.sizeOf274
  v232:=Tryz.zeroValue274
  t233:=Tryz.underlying275
  a233:=Tryz.isAgg275
  z233:=Tryz.sizeOf275
  v233:=Tryz.zeroValue275
  g15:=by kernel_rfl
  g16:=by kernel_rfl
  g17:=by kernel_rfl
  g18:=by kernel_rfl
  g19:=by kernel_rfl
  t80:=Tryz.underlying171
  a80:=Tryz.isAgg171
  z80:=Tryz.sizeOf171
  v80:=Tryz.zeroValue171
  i0:=by kernel_rfl
  i2:=by kernel_rfl
  i3:=by kernel_rfl
  i4:=by kernel_rfl
  i5:=by kernel_rfl
  i9:=by kernel_rfl
  i20:=by kernel_rfl
  i21:=by kernel_rfl
  i37:=by kernel_rfl
  i46:=by kernel_rfl
  i51:=by kernel_rfl
  i53:=by kernel_rfl
  i75:=by kernel_rfl
  i76:=by kernel_rfl
  i80:=by kernel_rfl
  i85:=by kernel_rfl
  i127:=by kernel_rfl
  i143:=by kernel_rfl
  i145:=by kernel_rfl
  i167:=by kernel_rfl
  i168:=by kernel_rfl
  i171:=by kernel_rfl
  i173:=by kernel_rfl
  i175:=by kernel_rfl
  i210:=by kernel_rfl
  i212:=by kernel_rfl
  i232:=by kernel_rfl
  i233:=by kernel_rfl
  m15:=by kernel_rfl
  m16:=by kernel_rfl
  m17:=by kernel_rfl
  m18:=by kernel_rfl
  m19:=by kernel_rfl
  c0:=by kernel_rfl
  c2:=by kernel_rfl
  c3:=by kernel_rfl
  c4:=by kernel_rfl
  c5:=by kernel_rfl
  c9:=by kernel_rfl
  c20:=by kernel_rfl
  c21:=by kernel_rfl
  c37:=by kernel_rfl
  c46:=by kernel_rfl
  c51:=by kernel_rfl
  c53:=by kernel_rfl
  c75:=by kernel_rfl
  c76:=by kernel_rfl
  c80:=by kernel_rfl
  c85:=by kernel_rfl
  c127:=by kernel_rfl
  c143:=by kernel_rfl
  c145:=by kernel_rfl
  c167:=by kernel_rfl
  c168:=by kernel_rfl
  c171:=by kernel_rfl
  c173:=by kernel_rfl
  c175:=by kernel_rfl
  c210:=by kernel_rfl
  c212:=by kernel_rfl
  c213:=by kernel_rfl
  c232:=by kernel_rfl
  c233:=by kernel_rfl }
theorem Tryz.strconv_Atoi_ok (s:ByteArray) (hmax:s.size≤9223372036854775806) (v:Int) (h:Lib.atoiAll s.data.toList=.ok v) (w:World) :
    Calls Tryz.prog 163 #[.string s] w fun e w'=>e=.returned (.tuple #[.int .i64 v,.nilIface])∧(w'=w∨∃ t,w'=Lib.bytesWorld w 5 t):=Any.strconv_Atoi_ok Tryz.laysC172 s hmax v h w
theorem Tryz.strconv_Atoi_syntax_var (s:ByteArray) (hlim:s.size≤281474976710656) (h:Lib.atoiAll s.data.toList=Lib.NumEnd.syntax) (tp:TypeId) (p:Value) (w:World) (hvar:w.var? Tryz.prog "strconv.ErrSyntax" = some #[.iface tp p]) :
    Calls Tryz.prog 163 #[.string s] w fun e w'=>∃ N,e=.returned (.tuple #[.int .i64 0,.iface 245 (.pointer (some ⟨N,0,none⟩))])∧w.heap.size≤N∧w'.heap[N]?=some (.cells #[.string ⟨#[65,116,111,105]⟩,.string s,.iface tp p] 262 (0,0))∧Below w.heap.size w w':=Any.strconv_Atoi_syntax_var Tryz.laysC172 s hlim h tp p w hvar
theorem Tryz.strconv_Atoi_range_var (s:ByteArray) (hlim:s.size≤281474976710656) (h:Lib.atoiAll s.data.toList=.range) (tp:TypeId) (p:Value) (w:World) (hvar:w.var? Tryz.prog "strconv.ErrRange" = some #[.iface tp p]) :
    Calls Tryz.prog 163 #[.string s] w fun e w'=>∃ N,e=.returned (.tuple #[.int .i64 (Lib.atoiSat s.data.toList),.iface 245 (.pointer (some ⟨N,0,none⟩))])∧w.heap.size≤N∧w'.heap[N]?=some (.cells #[.string ⟨#[65,116,111,105]⟩,.string s,.iface tp p] 262 (0,0))∧Below w.heap.size w w':=Any.strconv_Atoi_range_var Tryz.laysC172 s hlim h tp p w hvar
def Tryz.lays217_ren:Go.Shelf.Ren:=⟨fun | 217=>202 | 266=>212 | n=>n,fun | 9=>9 | 5=>5 | 3=>3 | n=>n,fun | n=>n⟩
def Tryz.lays224_ren:Go.Shelf.Ren:=⟨fun | 224=>204 | n=>n,fun | 3=>3 | n=>n,fun | n=>n⟩
def Tryz.lays314_ren:Go.Shelf.Ren:=⟨fun | 314=>213 | n=>n,fun | 9=>9 | 51=>234 | 3=>3 | 4=>4 | 5=>5 | 46=>223 | n=>n,fun | n=>n⟩
def Tryz.lays267_ren:Go.Shelf.Ren:=⟨fun | 267=>205 | 314=>213 | n=>n,fun | 9=>9 | 3=>3 | 146=>267 | 51=>234 | 4=>4 | 5=>5 | 46=>223 | n=>n,fun | n=>n⟩
def Tryz.lays219_ren:Go.Shelf.Ren:=⟨fun | 219=>187 | 217=>202 | 225=>203 | 224=>204 | 267=>205 | 266=>212 | 314=>213 | n=>n,fun | 9=>9 | 3=>3 | 4=>4 | 5=>5 | 46=>223 | 146=>267 | 51=>234 | n=>n,fun | 1=>1 | n=>n⟩
theorem Tryz.lays219:Go.Proofs.Lays.n219 Tryz.prog Tryz.lays219_ren:={
  mixed:=by kernel_rfl
  f217:=Tryz.func202.trans (congrArg some (by kernel_rfl))
  f219:=Tryz.func187.trans (congrArg some (by kernel_rfl))
  f224:=Tryz.func204.trans (congrArg some (by kernel_rfl))
  f225:=Tryz.func203.trans (congrArg some (by kernel_rfl))
  f266:=Tryz.func212.trans (congrArg some (by kernel_rfl))
  f267:=Tryz.func205.trans (congrArg some (by kernel_rfl))
  f314:=Tryz.func213.trans (congrArg some (by kernel_rfl))
  t3:=Tryz.underlying3
  a3:=Tryz.isAgg3
  z3:=Tryz.sizeOf3
  v3:=Tryz.zeroValue3
  t4:=Tryz.underlying4
  a4:=Tryz.isAgg4
  z4:=Tryz.sizeOf4
  v4:=Tryz.zeroValue4
  t5:=Tryz.underlying5
  a5:=Tryz.isAgg5
  z5:=Tryz.sizeOf5
  v5:=Tryz.zeroValue5
  t9:=Tryz.underlying9
  a9:=Tryz.isAgg9
  z9:=Tryz.sizeOf9
  v9:=Tryz.zeroValue9
  t46:=Tryz.underlying223
  a46:=Tryz.isAgg223
  z46:=Tryz.sizeOf223
  v46:=Tryz.zeroValue223
  t51:=Tryz.underlying234
  a51:=Tryz.isAgg234
  z51:=Tryz.sizeOf234
  v51:=Tryz.zeroValue234
  t146:=Tryz.underlying267
  a146:=Tryz.isAgg267
  z146:=Tryz.sizeOf267
  v146:=Tryz.zeroValue267
  g1:=by kernel_rfl }
theorem Tryz.stringslite_Index_one (s:ByteArray) (c:UInt8) (w:World) :
    Calls Tryz.prog 187 #[.string s,.string ⟨#[c]⟩] w fun e w'=>e=.returned (.int .i64 (Lib.indexByte s.data.toList c))∧w'=w:=Any.stringslite_Index_one Tryz.lays219 s c w
def Tryz.lays220_ren:Go.Shelf.Ren:=⟨fun | 220=>170 | 219=>187 | 217=>202 | 225=>203 | 224=>204 | 267=>205 | 266=>212 | 314=>213 | n=>n,fun | 9=>9 | 4=>4 | 3=>3 | 5=>5 | 46=>223 | 146=>267 | 51=>234 | n=>n,fun | 1=>1 | n=>n⟩
def Tryz.lays145_ren:Go.Shelf.Ren:=⟨fun | 145=>162 | 220=>170 | 219=>187 | 217=>202 | 225=>203 | 224=>204 | 267=>205 | 266=>212 | 314=>213 | n=>n,fun | 9=>9 | 4=>4 | 59=>215 | 3=>3 | 5=>5 | 46=>223 | 146=>267 | 51=>234 | n=>n,fun | 1=>1 | n=>n⟩
def Tryz.laysM219_ren:Go.Shelf.Ren:=⟨fun | 219=>187 | 217=>202 | 225=>203 | 224=>204 | 267=>205 | 266=>212 | 314=>213 | n=>n,fun | 9=>9 | 3=>3 | 4=>4 | 5=>5 | 46=>223 | 146=>267 | 51=>234 | n=>n,fun | 1=>1 | n=>n⟩
def Tryz.laysM220_ren:Go.Shelf.Ren:=⟨fun | 220=>170 | 219=>187 | 217=>202 | 225=>203 | 224=>204 | 267=>205 | 266=>212 | 314=>213 | n=>n,fun | 9=>9 | 4=>4 | 3=>3 | 5=>5 | 46=>223 | 146=>267 | 51=>234 | n=>n,fun | 1=>1 | n=>n⟩
def Tryz.laysM145_ren:Go.Shelf.Ren:=⟨fun | 145=>162 | 220=>170 | 219=>187 | 217=>202 | 225=>203 | 224=>204 | 267=>205 | 266=>212 | 314=>213 | n=>n,fun | 9=>9 | 4=>4 | 59=>215 | 3=>3 | 5=>5 | 46=>223 | 146=>267 | 51=>234 | n=>n,fun | 1=>1 | n=>n⟩
end Go.Proofs
