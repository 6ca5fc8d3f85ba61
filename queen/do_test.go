package queen_test

import (
	"math"
	"math/rand"
	"reflect"
	"slices"
	"strings"
	"testing"

	"leazing/api"
	"leazing/book"
	"leazing/queen"
)

// P10.2 and P10.5: what commands do and answer, at any queens.

// checkDo does a command, and wants what the chapter says of it; it returns the answer.
func checkDo(t *testing.T, q *queen.Queen, c api.Command) []string {
	t.Helper()
	before := stateOf(q)
	due, after := before.due(c)
	args := slices.Clone(c.Args)
	answer := q.Do(c)
	got := stateOf(q)
	if !slices.Equal(answer, due) {
		t.Fatalf("%+v: %q, want %q: %s", c, answer, due, short(before))
	}
	if !sameState(got, after) {
		t.Fatalf("%+v: %q: %s, want %s, from %s", c, answer, short(got), short(after), short(before))
	}
	if !slices.Equal(args, c.Args) {
		t.Fatalf("%+v: numbers are changed, from %v", c, args)
	}
	checkRefused(t, c, answer, before, got)
	return answer
}

func isRefused(answer []string) bool { return strings.HasPrefix(answer[0], "error ") }

// checkRefused wants P10.5: a command that is refused changes nothing, but that a letter or a peal is gone; a query changes nothing.
func checkRefused(t *testing.T, c api.Command, answer []string, before, after state) {
	t.Helper()
	if !isRefused(answer) && c.Kind < api.CmdOpen || sameState(before, after) {
		return
	}
	lost := before
	switch {
	case c.Kind == api.CmdDeliver && len(after.letters) == len(before.letters)-1:
		lost.letters = after.letters
	case c.Kind == api.CmdHear && len(after.peals) == len(before.peals)-1:
		lost.peals = after.peals
	}
	if !sameState(lost, after) {
		t.Fatalf("%+v: %q: %s is changed to %s", c, answer, short(before), short(after))
	}
}

// grown returns a queen who did random commands.
func grown(r *rand.Rand, commands int) *queen.Queen {
	q := queen.New()
	for range commands {
		q.Do(anyCommand(r))
	}
	return q
}

// TestDo: random commands, one after the other.
func TestDo(t *testing.T) {
	done, refused := map[string]int{}, 0
	rounds(30, 200, func(r *rand.Rand) {
		q, next := grown(r, oneOf(r, 0, 0, 0, 30, 100, 300)), themed(r)
		for range 100 {
			c := next()
			u, _ := usageOf(c.Kind)
			if isRefused(checkDo(t, q, c)) {
				refused++
			} else {
				done[u.word]++
			}
		}
	})
	for _, u := range usages {
		if done[u.word] < 10 {
			t.Error("tried:", u.word, done[u.word])
		}
	}
	if refused < 4000 {
		t.Error("tried:", refused)
	}
}

// TestEachCommandRefused: each command with each number odd, at queens who have much to tell.
func TestEachCommandRefused(t *testing.T) {
	refused := map[string]int{}
	rounds(31, 4, func(r *rand.Rand) {
		q := grown(r, 250)
		for _, u := range usages {
			for i := range u.names {
				for _, n := range list(-1000000000, -1, 0, 6, 100, 1000, 4167, 100000, 1000000000) {
					c := command(u.kind, numbersFor(r, u)...)
					c.Args[i] = n
					if isRefused(checkDo(t, q, c)) {
						refused[u.word]++
					}
				}
			}
		}
	})
	for _, u := range usages {
		if len(u.names) > 0 && refused[u.word] < 4 {
			t.Error("tried:", u.word, refused[u.word])
		}
	}
}

// TestNotRight: commands that are not right, and parishes that are none: ErrWords comes first, and then ErrArg.
func TestNotRight(t *testing.T) {
	q := grown(rand.New(rand.NewSource(32)), 200)
	for kind := -2; kind < 96; kind++ {
		u, is := usageOf(kind)
		for n := range 12 {
			if !is || n != len(u.names) {
				if l := checkDo(t, q, command(kind, slices.Repeat(list(9), n)...)); !slices.Equal(l, list("error 100")) {
					t.Errorf("%d with %d numbers: %q", kind, n, l)
				}
			}
		}
	}
	for _, u := range usages {
		for i := range u.names {
			for _, n := range list(1000000001, -1000000001, math.MaxInt, math.MinInt) {
				c := command(u.kind, slices.Repeat(list(9), len(u.names))...)
				c.Args[i] = n
				if l := checkDo(t, q, c); !slices.Equal(l, list("error 100")) {
					t.Errorf("%+v: %q", c, l)
				}
			}
		}
		if len(u.names) == 0 || u.names[0] != "PARISH" {
			continue
		}
		for _, n := range list(-1, 6, 1000000000, -1000000000) {
			c := command(u.kind, slices.Repeat(list(-1), len(u.names))...)
			c.Args[0] = n
			if l := checkDo(t, q, c); !slices.Equal(l, list("error 1")) {
				t.Errorf("%+v: %q", c, l)
			}
		}
	}
}

// TestNew: what a new queen has.
func TestNew(t *testing.T) {
	q := queen.New()
	borders := [][]api.Border{
		{{Field: 91, Parishes: 7}, {Field: 93, Parishes: 57}},
		{{Field: 91, Parishes: 7}, {Field: 94, Parishes: 34}},
		{{Field: 91, Parishes: 7}, {Field: 92, Parishes: 12}},
		{{Field: 92, Parishes: 12}, {Field: 93, Parishes: 57}},
		{{Field: 93, Parishes: 57}},
		{{Field: 93, Parishes: 57}, {Field: 94, Parishes: 34}},
	}
	for n := range 6 {
		if p := q.Parish(n); !same(p, api.Parish{Me: n}) || !same(p, must[api.Parish](t, n)(book.NewParish(n))) {
			t.Errorf("the parish %d: %+v", n, p)
		}
		if w := q.Watch(n); !same(w, api.Watch{Me: n, Borders: borders[n]}) {
			t.Errorf("the watch %d: %+v", n, w)
		}
	}
	if !same(q.Setting(), api.Setting{}) || len(q.Letters()) != 0 || len(q.Peals()) != 0 {
		t.Errorf("%+v, %+v, %+v", q.Setting(), q.Letters(), q.Peals())
	}
	if q == queen.New() {
		t.Error("New returns a queen twice")
	}
}

// TestNobody: a nil Queen, and parishes that are none.
func TestNobody(t *testing.T) {
	var nobody *queen.Queen
	for _, u := range usages {
		if l := nobody.Do(command(u.kind, make([]int, len(u.names))...)); !slices.Equal(l, list("error 100")) {
			t.Errorf("%s: %q", u.word, l)
		}
	}
	if l := nobody.Do(api.Command{}); !slices.Equal(l, list("error 100")) {
		t.Errorf("%q", l)
	}
	if s := stateOf(nobody); !sameState(s, state{}) {
		t.Errorf("%+v", s)
	}
	q := grown(rand.New(rand.NewSource(33)), 300)
	for _, n := range list(-1, 6, 7, math.MinInt, math.MaxInt) {
		for _, who := range list(q, nobody) {
			if !same(who.Parish(n), api.Parish{}) || !same(who.Watch(n), api.Watch{}) {
				t.Errorf("%d: %+v, %+v", n, who.Parish(n), who.Watch(n))
			}
		}
	}
	// A Queen that New did not make does not panic either.
	zero := &queen.Queen{}
	rounds(34, 20, func(r *rand.Rand) {
		for range 50 {
			if l := zero.Do(anyCommand(r)); len(l) == 0 {
				t.Error("no answer")
			}
		}
	})
}

// piece is a part of memory.
type piece struct{ from, to uintptr }

// pieces returns the memory of all lists in a value, with the room behind them.
func pieces(v reflect.Value) []piece {
	var all []piece
	switch v.Kind() {
	case reflect.Slice:
		if size := v.Type().Elem().Size() * uintptr(v.Cap()); size > 0 {
			all = append(all, piece{v.Pointer(), v.Pointer() + size})
		}
		for i := range v.Len() {
			all = append(all, pieces(v.Index(i))...)
		}
	case reflect.Array:
		for i := range v.Len() {
			all = append(all, pieces(v.Index(i))...)
		}
	case reflect.Struct:
		for i := range v.NumField() {
			all = append(all, pieces(v.Field(i))...)
		}
	}
	return all
}

// overlap tells whether two of some pieces have a part in common.
func overlap(all []piece) bool {
	slices.SortFunc(all, func(a, b piece) int { return int(int64(a.from) - int64(b.from)) })
	for i := 1; i < len(all); i++ {
		if all[i].from < all[i-1].to {
			return true
		}
	}
	return false
}

// TestMemory: R4: what a queen returns shares no memory with her, nor do two lists of it; nor does what a book says.
func TestMemory(t *testing.T) {
	rounds(35, 12, func(r *rand.Rand) {
		q := grown(r, 300)
		q.Do(command(api.CmdSend, 0, 1, 0))
		q.Do(command(api.CmdTell, 0, 1))
		q.Do(command(api.CmdDouble, -1))
		q.Do(command(api.CmdAgain, -1))
		first, second := stateOf(q), stateOf(q)
		var all []piece
		for _, s := range list(first, second) {
			all = append(all, pieces(reflect.ValueOf(s))...)
		}
		if overlap(all) {
			t.Error("results share memory")
		}
		for _, part := range list[any](&second.parishes, &second.watches, &second.setting, &second.letters, &second.peals) {
			spoil(reflect.ValueOf(part).Elem())
		}
		if sameState(first, second) || !sameState(stateOf(q), first) {
			t.Error("who changes a result changes the queen")
		}
		answer := q.Do(command(api.CmdRecords))
		for i := range answer {
			answer[i] = "spoilt"
		}
		if l := q.Do(command(api.CmdRecords)); slices.Contains(l, "spoilt") {
			t.Error("who changes an answer changes the next one")
		}
	})
	rounds(36, 200, func(r *rand.Rand) {
		b := anyBook(r)
		before := slices.Clone(b.Records)
		all := pieces(reflect.ValueOf(b))
		for range 2 {
			all = append(all, pieces(reflect.ValueOf(must[api.Plot](t, b)(queen.Plot(b, 1))))...)
			all = append(all, pieces(reflect.ValueOf(must[[]api.Proof](t, b)(queen.Proofs(b, 5))))...)
			all = append(all, pieces(reflect.ValueOf(must[api.Kin](t, b)(queen.Kin(b))))...)
			all = append(all, pieces(reflect.ValueOf(must[api.Sacks](t, b)(queen.Sacks(b))))...)
			all = append(all, pieces(reflect.ValueOf(must[api.Relief](t, b)(queen.Relief(b))))...)
		}
		if overlap(all) || !slices.Equal(before, b.Records) {
			t.Errorf("%s: results share memory, or change it", short(b))
		}
	})
}

// spoil changes all numbers and texts that are in lists of a value.
func spoil(v reflect.Value) {
	switch v.Kind() {
	case reflect.Slice, reflect.Array:
		for i := range v.Len() {
			spoil(v.Index(i))
		}
	case reflect.Struct:
		for i := range v.NumField() {
			spoil(v.Field(i))
		}
	case reflect.Int:
		v.SetInt(v.Int() + 1)
	case reflect.String:
		v.SetString(v.String() + "?")
	}
}

// TestArgsAreNotKept: R4: who changes the numbers of a command behind it changes nothing.
func TestArgsAreNotKept(t *testing.T) {
	rounds(37, 20, func(r *rand.Rand) {
		q := queen.New()
		for range 100 {
			c := anyCommand(r)
			q.Do(c)
			before := stateOf(q)
			for i := range c.Args {
				c.Args[i]++
			}
			if !sameState(before, stateOf(q)) {
				t.Fatalf("%+v is kept", c)
			}
		}
	})
}
