package fault_test

import (
	"errors"
	"fmt"
	"math"
	"strconv"
	"strings"
	"testing"

	"cautery/api"
	"cautery/fault"
)

// texts are the names of the numbers 0 to 15, as the chapter lists them.
var texts = []string{"ok", "argument", "short", "form", "large", "none", "exists", "full", "down", "damaged", "bad", "held", "stale", "busy", "sum", "pool"}

// odd are numbers that have no name.
var odd = []api.Errno{-1, -2, -15, -16, 16, 17, 31, 32, 255, 256, 1 << 16, 1 << 32, math.MinInt32, math.MaxInt32, math.MinInt, math.MaxInt}

// numbers are all that a fault may have: those with a name but OK, and odd ones.
func numbers() []api.Errno {
	var out []api.Errno
	for code := api.ErrArg; code <= api.ErrPool; code++ {
		out = append(out, code)
	}
	return append(out, odd...)
}

// chain is a fault of the last operation, wrapped in the others from the end on.
func chain(code api.Errno, ops ...string) *fault.Fault {
	e := fault.Of(ops[len(ops)-1], code)
	for i := len(ops) - 2; i >= 0; i-- {
		e = fault.Wrap(ops[i], e)
	}
	return e
}

// told is all that the calls tell of a fault.
type told struct {
	op          string
	field, code api.Errno
	root, text  string
	depth       int
}

func tell(e *fault.Fault) told {
	return told{e.Op, e.Code, fault.Code(e), fault.Root(e), fault.Text(e), fault.Depth(e)}
}

// hold holds a fault against what the chapter says of one of these operations, all of that number.
func hold(t *testing.T, e *fault.Fault, code api.Errno, name string, ops ...string) {
	t.Helper()
	if e == nil {
		t.Fatalf("%q of %d: no fault", ops, code)
	}
	want := told{ops[0], code, code, ops[len(ops)-1], strings.Join(ops, ": ") + ": " + name, len(ops)}
	if got := tell(e); got != want {
		t.Errorf("%q of %d: %+v, not %+v", ops, code, got, want)
	}
	if e.Error() != want.text {
		t.Errorf("%q of %d: Error %q", ops, code, e.Error())
	}
	for _, asked := range append(numbers(), api.OK) {
		if fault.Has(e, asked) != (asked == code) {
			t.Errorf("%q of %d: Has %d: %t", ops, code, asked, !(asked == code))
		}
	}
}

// name is what the chapter says of a number.
func name(code api.Errno) string {
	if code < 0 || int(code) >= len(texts) {
		return "?"
	}
	return texts[code]
}

// P3.1, C1: a fault of an operation and a number.
func TestOf(t *testing.T) {
	for _, code := range numbers() {
		for _, op := range []string{"read", "", "a: b", "\x00\xff", "größe"} {
			hold(t, fault.Of(op, code), code, name(code), op)
		}
	}
}

// P3.1, C1: OK is no fault, whatever was being done.
func TestOfOK(t *testing.T) {
	for _, op := range []string{"", "x", "read"} {
		if e := fault.Of(op, api.OK); e != nil {
			t.Errorf("Of %q, OK: %+v", op, e)
		}
	}
}

// P3.1, C1: a fault in others.
func TestWrap(t *testing.T) {
	for _, code := range numbers() {
		for _, ops := range [][]string{{"scrub", "read"}, {"scrub", "heal", "read"}, {"", "", ""}, {"a", ""}, {"", "a"}, {"a", "a", "a", "a"}, {"x", "y: z", ":", "ü"}} {
			hold(t, chain(code, ops...), code, name(code), ops...)
		}
	}
}

// P3.1, C1: what is wrapped stays as it is, and may be wrapped again in another.
func TestWrapTwice(t *testing.T) {
	e := chain(api.ErrDamaged, "heal", "read")
	left, right := fault.Wrap("scrub", e), fault.Wrap("send", e)
	upper := fault.Wrap("run", left)
	hold(t, e, api.ErrDamaged, "damaged", "heal", "read")
	hold(t, left, api.ErrDamaged, "damaged", "scrub", "heal", "read")
	hold(t, right, api.ErrDamaged, "damaged", "send", "heal", "read")
	hold(t, upper, api.ErrDamaged, "damaged", "run", "scrub", "heal", "read")
	if left == e || right == e || left == right || upper == left {
		t.Error("a fault that was handed in is answered")
	}
}

// P3.1, C1: none is wrapped as none, however often.
func TestWrapNone(t *testing.T) {
	var e *fault.Fault
	for _, op := range []string{"", "x", "scrub"} {
		if e = fault.Wrap(op, e); e != nil {
			t.Fatalf("Wrap %q, nil: %+v", op, e)
		}
	}
	if e := fault.Wrap("x", fault.Of("y", api.OK)); e != nil {
		t.Errorf("Wrap of OK: %+v", e)
	}
}

// P3.1, R1: nil is no fault: number OK, no text, no root, none within, no number in it, not even OK.
func TestNone(t *testing.T) {
	if fault.Code(nil) != api.OK || fault.Root(nil) != "" || fault.Text(nil) != "" || fault.Depth(nil) != 0 {
		t.Errorf("nil: %d, %q, %q, %d", fault.Code(nil), fault.Root(nil), fault.Text(nil), fault.Depth(nil))
	}
	for _, code := range append(numbers(), api.OK) {
		if fault.Has(nil, code) {
			t.Errorf("nil has %d", code)
		}
	}
	var e *fault.Fault
	if e.Error() != "" || e.Unwrap() != nil || e.Is(e) || e.Is(fault.Of("x", api.ErrArg)) || e.Is(nil) {
		t.Errorf("nil as an error: %q", e.Error())
	}
}

// P3.1, C1: a fault that a caller made by hand is one too; its number may be OK, and it is a fault then.
func TestByHand(t *testing.T) {
	if got, want := tell(&fault.Fault{Op: "read", Code: api.ErrBusy}), (told{"read", 13, 13, "read", "read: busy", 1}); got != want {
		t.Errorf("by hand: %+v", got)
	}
	zero := &fault.Fault{}
	if got, want := tell(zero), (told{"", 0, 0, "", ": ok", 1}); got != want {
		t.Errorf("zero: %+v", got)
	}
	if !fault.Has(zero, api.OK) || fault.Has(zero, api.ErrArg) {
		t.Error("Has of zero")
	}
	e := fault.Wrap("scrub", &fault.Fault{Op: "read"})
	if e == nil {
		t.Fatal("Wrap of a fault whose number is OK: nil")
	}
	if got, want := tell(e), (told{"scrub", 0, 0, "read", "scrub: read: ok", 2}); got != want {
		t.Errorf("wrapped: %+v", got)
	}
	if !fault.Has(e, api.OK) || fault.Has(e, api.ErrDamaged) {
		t.Error("Has of the wrapped one")
	}
}

// P3.1, C1, C2: where faults of one chain have several numbers, Has asks all of them; Code, Wrap and Text take the outermost one's.
func TestNumbersApart(t *testing.T) {
	e := fault.Of("read", api.ErrDamaged)
	e = fault.Wrap("heal", e)
	e.Code = api.ErrFull
	e = fault.Wrap("scrub", e)
	if e.Code != api.ErrFull {
		t.Errorf("Wrap: %d", e.Code)
	}
	e.Code = api.ErrHeld
	if got, want := tell(e), (told{"scrub", 11, 11, "read", "scrub: heal: read: held", 3}); got != want {
		t.Errorf("%+v", got)
	}
	for _, code := range append(numbers(), api.OK) {
		want := code == api.ErrDamaged || code == api.ErrFull || code == api.ErrHeld
		if fault.Has(e, code) != want {
			t.Errorf("Has %d: %t", code, !want)
		}
	}
}

// P3.1, C2: the names of 0 to 15, and of others.
func TestName(t *testing.T) {
	for i, want := range texts {
		if got := fault.Name(api.Errno(i)); got != want {
			t.Errorf("Name %d: %q, not %q", i, got, want)
		}
	}
	for _, code := range odd {
		if got := fault.Name(code); got != "?" {
			t.Errorf("Name %d: %q", code, got)
		}
	}
	if fault.Name(api.ErrDamaged) != "damaged" || fault.Name(api.ErrArg) != "argument" || fault.Name(api.ErrPool) != "pool" {
		t.Error("Name of api's errors")
	}
}

// P3.1, C2: the chapter's example, and those of the document's whole.
func TestText(t *testing.T) {
	for _, c := range []struct {
		e    *fault.Fault
		want string
	}{
		{fault.Wrap("scrub", fault.Of("read", api.ErrDamaged)), "scrub: read: damaged"},
		{fault.Of("read", api.ErrDamaged), "read: damaged"},
		{fault.Of("receive", api.ErrBusy), "receive: busy"},
		{fault.Of("hear", api.ErrSum), "hear: sum"},
		{fault.Of("open", api.ErrPool), "open: pool"},
		{fault.Of("", api.ErrArg), ": argument"},
		{fault.Wrap("", fault.Of("", 16)), ": : ?"},
		{fault.Of("x", -1), "x: ?"},
		{nil, ""},
	} {
		if got := fault.Text(c.e); got != c.want {
			t.Errorf("Text: %q, not %q", got, c.want)
		}
		if got := c.e.Error(); got != c.want {
			t.Errorf("Error: %q, not %q", got, c.want)
		}
	}
}

// P3.2: what is wrapped, however often, has the same number and root, as deep as the document's bound.
func TestWrappedOften(t *testing.T) {
	const most = 1 << 16
	e := fault.Of("first", api.ErrStale)
	var ops []string
	for depth := 2; depth <= most; depth++ {
		op := strconv.Itoa(depth)
		ops = append(ops, op)
		e = fault.Wrap(op, e)
		if e.Op != op || e.Code != api.ErrStale || fault.Code(e) != api.ErrStale {
			t.Fatalf("at %d: %q, %d", depth, e.Op, e.Code)
		}
		if depth > 100 && depth < most {
			continue
		}
		if fault.Root(e) != "first" || fault.Depth(e) != depth || !fault.Has(e, api.ErrStale) || fault.Has(e, api.ErrBusy) {
			t.Fatalf("at %d: %q, %d", depth, fault.Root(e), fault.Depth(e))
		}
	}
	var want strings.Builder
	for i := len(ops) - 1; i >= 0; i-- {
		want.WriteString(ops[i] + ": ")
	}
	want.WriteString("first: stale")
	if fault.Text(e) != want.String() {
		t.Error("Text of the deepest")
	}
}

// P3.2: of every number.
func TestWrappedNumbers(t *testing.T) {
	for _, code := range numbers() {
		e := fault.Of("root", code)
		for i := range 20 {
			e = fault.Wrap("op"+strconv.Itoa(i), e)
			if fault.Code(e) != code || fault.Root(e) != "root" || !fault.Has(e, code) {
				t.Fatalf("%d wrapped %d times: %s", code, i+1, fault.Text(e))
			}
		}
	}
}

// R4: what was wrapped is the caller's own: what is done to it later is not seen through what wraps it, nor the other way.
func TestApart(t *testing.T) {
	inner := fault.Of("read", api.ErrDamaged)
	middle := fault.Wrap("heal", inner)
	outer := fault.Wrap("scrub", middle)
	*inner = fault.Fault{Op: "changed", Code: api.ErrFull}
	hold(t, middle, api.ErrDamaged, "damaged", "heal", "read")
	hold(t, outer, api.ErrDamaged, "damaged", "scrub", "heal", "read")
	middle.Op, middle.Code = "changed", api.ErrHeld
	hold(t, outer, api.ErrDamaged, "damaged", "scrub", "heal", "read")
	outer.Op, outer.Code = "other", api.ErrSum
	if got, want := tell(middle), (told{"changed", 11, 11, "read", "changed: read: held", 2}); got != want {
		t.Errorf("middle: %+v", got)
	}
	hold(t, inner, api.ErrFull, "full", "changed")
}

// R4: what is unwrapped is new memory each time.
func TestUnwrapApart(t *testing.T) {
	e := chain(api.ErrDamaged, "scrub", "heal", "read")
	for range 2 {
		in, ok := errors.Unwrap(e).(*fault.Fault)
		if !ok {
			t.Fatal("no fault within")
		}
		hold(t, in, api.ErrDamaged, "damaged", "heal", "read")
		*in = fault.Fault{Op: "changed", Code: api.ErrFull}
		hold(t, e, api.ErrDamaged, "damaged", "scrub", "heal", "read")
	}
}

// Ways: a fault is an error that the library walks through: Unwrap ends with nothing, and errors.As finds the outermost one behind what wraps it.
func TestAsError(t *testing.T) {
	e := chain(api.ErrDamaged, "heal", "read")
	var err error = fmt.Errorf("around: %w", e)
	var got *fault.Fault
	if !errors.As(err, &got) || got != e {
		t.Errorf("As: %v", got)
	}
	if err.Error() != "around: heal: read: damaged" {
		t.Errorf("Error: %q", err.Error())
	}
	if in := errors.Unwrap(errors.Unwrap(e)); in != nil {
		t.Errorf("Unwrap of the root: %v", in)
	}
	if in := errors.Unwrap(fault.Of("x", api.ErrArg)); in != nil {
		t.Errorf("Unwrap of one alone: %v", in)
	}
}

// Ways: errors.Is asks through what wraps a fault for another one of its number.
func TestIs(t *testing.T) {
	inner := fault.Of("read", api.ErrDamaged)
	e := fault.Wrap("scrub", inner)
	var err error = fmt.Errorf("around: %w", e)
	if !errors.Is(err, e) || !errors.Is(err, inner) || !errors.Is(e, inner) || !errors.Is(err, fault.Of("else", api.ErrDamaged)) {
		t.Error("Is: not found")
	}
	if errors.Is(err, fault.Of("read", api.ErrFull)) || errors.Is(e, errors.New("read: damaged")) || errors.Is(e, (*fault.Fault)(nil)) || errors.Is(e, nil) {
		t.Error("Is: found what is another")
	}
	e.Code = api.ErrBusy
	if !errors.Is(e, inner) || !errors.Is(e, fault.Of("", api.ErrBusy)) {
		t.Error("Is: not asked of all")
	}
}

// R5: the same calls tell the same.
func TestSame(t *testing.T) {
	a, b := chain(api.ErrSum, "x", "y", "z"), chain(api.ErrSum, "x", "y", "z")
	if a == b || tell(a) != tell(b) || tell(a) != tell(a) {
		t.Errorf("%+v, %+v", tell(a), tell(b))
	}
}
