package trace_test

import (
	"crypto/sha256"
	"encoding/binary"
	"math"
	"slices"
	"strings"
	"testing"

	"offshoot/api"
	"offshoot/sha"
	"offshoot/trace"
)

const least, most = math.MinInt, math.MaxInt

// nines are nine bytes that are all 255.
const nines = "\xff\xff\xff\xff\xff\xff\xff\xff\xff"

// A number, and the bytes that tell it, written down by hand.
type written struct {
	n     int
	bytes string
}

// edges are numbers on either side of where a byte more is needed, and the least and the greatest.
func edges() []written {
	return []written{
		{0, "\x00"}, {1, "\x02"}, {-1, "\x01"}, {2, "\x04"}, {-2, "\x03"}, {7, "\x0e"},
		{63, "\x7e"}, {64, "\x80\x01"}, {-64, "\x7f"}, {-65, "\x81\x01"},
		{1000, "\xd0\x0f"}, {-1000, "\xcf\x0f"},
		{8191, "\xfe\x7f"}, {8192, "\x80\x80\x01"}, {-8192, "\xff\x7f"}, {-8193, "\x81\x80\x01"},
		{1 << 31, "\x80\x80\x80\x80\x10"}, {-1 << 31, "\xff\xff\xff\xff\x0f"},
		{most, "\xfe" + nines[:8] + "\x01"}, {most - 1, "\xfc" + nines[:8] + "\x01"},
		{least, nines + "\x01"}, {least + 1, "\xfd" + nines[:8] + "\x01"},
	}
}

// steps are those that are tried with each run: they make no difference.
func steps() []int { return []int{0, 1, -1, 10000, 10001, least, most} }

// ended is a run that ended so, with these events.
func ended(kind, value int, l ...api.Event) api.Run {
	return api.Run{Out: api.Outcome{Kind: kind, Value: value}, Events: l}
}

// set is an event by its variable, place and value.
func set(n, at, value int) api.Event { return api.Event{Var: n, At: at, Value: value} }

// same are so many events, all alike.
func same(n int, e api.Event) []api.Event { return slices.Repeat([]api.Event{e}, n) }

// reckoned are a run's bytes, by another way than the program's.
func reckoned(r api.Run) string {
	b := binary.AppendUvarint(nil, uint64(len(r.Events)))
	for _, e := range r.Events {
		b = binary.AppendVarint(binary.AppendVarint(binary.AppendVarint(b, int64(e.Var)), int64(e.At)), int64(e.Value))
	}
	return string(binary.AppendVarint(binary.AppendVarint(b, int64(r.Out.Kind)), int64(r.Out.Value)))
}

// digest is a text's digest, by another way than the program's.
func digest(s string) string {
	b := sha256.Sum256([]byte(s))
	return string(b[:])
}

// spoiled stands in the room behind events, and in events that were changed once they were told.
var spoiled = set(-7777777, -7777777, -7777777)

// roomy is a list of events with room behind it, full of another thing.
func roomy(l []api.Event) []api.Event { return slices.Concat(l, same(4, spoiled))[:len(l)] }

// short is the beginning of a run's events: enough to be told.
func short(l []api.Event) []api.Event { return l[:min(len(l), 20)] }

// differs tells where two texts begin to differ.
func differs(a, b string) int {
	n := 0
	for n < len(a) && n < len(b) && a[n] == b[n] {
		n++
	}
	return n
}

// part is a text from a bit ahead of a place on.
func part(s string, at int) string { return s[max(0, at-20):min(len(s), at+20)] }

// tells holds Bytes and Digest, each asked twice, and with other steps, against what they must tell. Nothing that was given is changed, not even behind its end, and who changes it then does not change an answer.
func tells(t *testing.T, r api.Run, want string) {
	t.Helper()
	given := r
	given.Events = roomy(r.Events)
	first, told := trace.Bytes(given), trace.Digest(given)
	again, more := trace.Bytes(given), trace.Digest(given)
	if at := differs(first, want); first != want || again != want {
		t.Fatalf("Bytes of %v %v of %d: %d bytes, from %d on %x of %x, not %d, %x; then the same: %v", r.Out, short(r.Events), len(r.Events),
			len(first), at, first[at:min(len(first), at+20)], part(first, at), len(want), part(want, at), first == again)
	}
	if sum := digest(want); told != sum || more != sum || sha.Sum(want) != sum {
		t.Fatalf("Digest of %v %v of %d: %x, then %x, not %x", r.Out, short(r.Events), len(r.Events), told, more, sum)
	}
	for _, n := range steps() {
		if given.Steps = n; trace.Bytes(given) != want || trace.Digest(given) != told {
			t.Fatalf("%v %v of %d: with %d steps it is another one", r.Out, short(r.Events), len(r.Events), n)
		}
	}
	if !slices.Equal(given.Events, r.Events) || !slices.Equal(given.Events[len(r.Events):len(r.Events)+4], same(4, spoiled)) {
		t.Fatalf("of %v is left: %v", short(r.Events), short(given.Events))
	}
	for i := range given.Events {
		given.Events[i] = spoiled
	}
	if first != want || told != digest(want) {
		t.Fatalf("%v %v of %d: what was told is another one, once the events are", r.Out, short(r.Events), len(r.Events))
	}
}

// join is texts, one behind the other.
func join(l ...string) string { return strings.Join(l, "") }
