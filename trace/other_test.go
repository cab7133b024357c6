package trace_test

import (
	"math/rand"
	"slices"
	"testing"

	"offshoot/api"
	"offshoot/trace"
	"offshoot/wire"
)

// alike tells whether runs have the same events, and ended the same: what their bytes must tell.
func alike(a, b api.Run) bool { return a.Out == b.Out && slices.Equal(a.Events, b.Events) }

// apart holds that bytes and digests of two runs are alike just where events and outcome are.
func apart(t *testing.T, a, b api.Run) {
	t.Helper()
	if want := alike(a, b); (trace.Bytes(a) == trace.Bytes(b)) != want || (trace.Digest(a) == trace.Digest(b)) != want {
		t.Fatalf("%v %v and %v %v: %x and %x, %x and %x", a.Out, short(a.Events), b.Out, short(b.Events), trace.Bytes(a), trace.Bytes(b), trace.Digest(a), trace.Digest(b))
	}
}

// other holds that two runs are not told alike.
func other(t *testing.T, a, b api.Run) {
	t.Helper()
	if alike(a, b) {
		t.Fatalf("%v %v is the same run", a.Out, short(a.Events))
	}
	apart(t, a, b)
	b.Steps = a.Steps + 1
	apart(t, a, b)
}

// starts are runs that are changed.
func starts() []api.Run {
	return []api.Run{
		ended(0, 0, set(0, 0, 0)),
		ended(0, 3, set(1, -1, 64), set(2, 7, 0)),
		ended(4, 0, same(3, set(0, 0, 0))...),
		ended(0, 0, same(2, set(-1, -1, -1))...),
		ended(2, 0, set(0, -1, 5), set(0, -1, 6), set(3, 0, 6), set(3, 1, 6), set(0, -1, 5)),
		ended(3, 0, same(64, set(5, -1, 0))...),
		ended(0, 1, same(127, set(1, 1, 1))...),
		ended(0, 1, same(128, set(1, 1, 1))...),
		ended(0, least, set(least, most, least), set(most, least, most)),
		ended(-3, 0, set(-3, 0, -3), set(0, -3, 0)),
	}
}

// with is a run with other events.
func with(r api.Run, l []api.Event) api.Run { return api.Run{Out: r.Out, Steps: r.Steps, Events: l} }

// nudges are changes to a number.
func nudges() []int { return []int{1, -1, 2, 64, -128, 1 << 31, 1 << 32, least} }

// One field of one event is another one.
func TestOtherField(t *testing.T) {
	for _, r := range starts() {
		for i := range r.Events {
			for _, n := range nudges() {
				for field := range 3 {
					l := slices.Clone(r.Events)
					*[]*int{&l[i].Var, &l[i].At, &l[i].Value}[field] += n
					other(t, r, with(r, l))
				}
			}
		}
	}
}

// The run ended otherwise.
func TestOtherOutcome(t *testing.T) {
	for _, r := range append(starts(), api.Run{}, ended(0, 3), ended(4, 0)) {
		for _, n := range nudges() {
			kind, value, both, swapped := r, r, r, r
			kind.Out.Kind += n
			value.Out.Value += n
			both.Out.Kind, both.Out.Value = kind.Out.Kind, value.Out.Value
			other(t, r, kind)
			other(t, r, value)
			other(t, r, both)
			other(t, kind, value)
			other(t, kind, both)
			if swapped.Out.Kind, swapped.Out.Value = r.Out.Value, r.Out.Kind; swapped.Out != r.Out {
				other(t, r, swapped)
			}
		}
	}
}

// One event more, in front, in between and at the end; one fewer; two changed about.
func TestOtherEvents(t *testing.T) {
	for _, r := range starts() {
		n := len(r.Events)
		for _, e := range []api.Event{r.Events[0], r.Events[n-1], {}, set(0, -1, 0), set(r.Out.Kind, r.Out.Value, 0), set(0, r.Out.Kind, r.Out.Value)} {
			for i := range n + 1 {
				more := with(r, slices.Insert(slices.Clone(r.Events), i, e))
				other(t, r, more)
				more.Out = api.Outcome{Kind: e.Var, Value: e.At}
				other(t, r, more)
			}
		}
		for i := range n {
			fewer := with(r, slices.Delete(slices.Clone(r.Events), i, i+1))
			other(t, r, fewer)
			fewer.Out = api.Outcome{Kind: r.Events[i].Var, Value: r.Events[i].At}
			other(t, r, fewer)
			for j := range i {
				l := slices.Clone(r.Events)
				if l[i], l[j] = l[j], l[i]; l[i] != l[j] {
					other(t, r, with(r, l))
				}
			}
			turned := slices.Clone(r.Events)
			turned[i] = set(turned[i].At, turned[i].Value, turned[i].Var)
			apart(t, r, with(r, turned))
		}
		other(t, r, with(r, nil))
		other(t, r, with(r, slices.Concat(r.Events, r.Events)))
	}
}

// Of all runs with up to three events of few numbers no two have the same bytes, nor the same digest.
func TestNoTwo(t *testing.T) {
	few := []int{0, -1, 64}
	var events []api.Event
	for _, n := range few {
		for _, at := range few {
			for _, value := range few {
				events = append(events, set(n, at, value))
			}
		}
	}
	lists := [][]api.Event{nil}
	for at := 0; at < len(lists) && len(lists[at]) < 3; at++ {
		for i, e := range events {
			if len(lists[at]) == 2 && i%4 != 0 { // of three events not all: they are many
				continue
			}
			lists = append(lists, append(slices.Clone(lists[at]), e))
		}
	}
	bytes, digests := map[string]bool{}, map[string]bool{}
	many := 0
	for _, l := range lists {
		for _, kind := range few {
			for _, value := range few {
				r := ended(kind, value, l...)
				bytes[trace.Bytes(r)], digests[trace.Digest(r)] = true, true
				many++
			}
		}
	}
	if many < 20000 || len(bytes) != many || len(digests) != many {
		t.Errorf("%d runs, of %d bytes and %d digests", many, len(bytes), len(digests))
	}
}

// What a run's bytes tell is read back: nothing of it is lost.
func TestReadBack(t *testing.T) {
	r := rand.New(rand.NewSource(2))
	for range 2000 {
		x := anything(r)
		in := wire.Of(trace.Bytes(x))
		var y api.Run
		for range in.Count(len(x.Events)) {
			y.Events = append(y.Events, set(in.Int(), in.Int(), in.Int()))
		}
		y.Out = api.Outcome{Kind: in.Int(), Value: in.Int()}
		if e := in.End(); e != api.OK || !alike(x, y) {
			t.Fatalf("%v %v: %v %v, %v", x.Out, short(x.Events), y.Out, short(y.Events), e)
		}
	}
}

// small is a run by chance that many others are alike.
func small(r *rand.Rand) api.Run {
	x := ended(r.Intn(2), r.Intn(2))
	for range r.Intn(3) {
		x.Events = append(x.Events, set(r.Intn(2), r.Intn(2)-1, r.Intn(2)))
	}
	x.Steps = r.Intn(100)
	return x
}

// Of runs by chance bytes and digests are alike just where events and outcome are.
func TestApartByChance(t *testing.T) {
	r := rand.New(rand.NewSource(3))
	same, apartSo := 0, 0
	for range 20000 {
		a, b := small(r), small(r)
		apart(t, a, b)
		if alike(a, b) {
			same++
		} else {
			apartSo++
		}
	}
	if same < 500 || apartSo < 5000 {
		t.Errorf("%d alike, %d not", same, apartSo)
	}
	for range 1000 {
		a, b := anything(r), anything(r)
		apart(t, a, b)
		apart(t, a, with(a, slices.Clone(a.Events)))
	}
}
