package vars_test

import (
	"fmt"
	"slices"
	"strings"
	"testing"

	"davit/api"
	"davit/vars"
)

// The calls have exactly these signatures.
var (
	_ func([]byte) ([]string, int, api.Errno)              = vars.Names
	_ func([]byte, []string, [][]byte) ([]byte, api.Errno) = vars.Fill
)

// numbers yields the same numbers in every test run.
type numbers uint64

func (n *numbers) below(most int) int {
	*n = *n*6364136223846793005 + 1442695040888963407
	return int(uint32(*n>>33)) % most
}

// one returns one of these.
func (n *numbers) one(of ...string) string {
	return of[n.below(len(of))]
}

// bytes returns some bytes of these, size of them.
func (n *numbers) bytes(of string, size int) string {
	b := make([]byte, size)
	for i := range b {
		b[i] = of[n.below(len(of))]
	}
	return string(b)
}

// shown tells of a text in a message.
func shown(s string) string {
	if len(s) <= 300 {
		return fmt.Sprintf("%q", s)
	}
	return fmt.Sprintf("%q .. %d bytes", s[:300], len(s))
}

// shownAll tells of texts in a message.
func shownAll(l []string) string {
	var all []string
	for _, s := range l[:min(len(l), 20)] {
		all = append(all, shown(s))
	}
	return fmt.Sprintf("%d %v", len(l), all)
}

// list returns these as values; none of them shares memory with another one.
func list(values []string) [][]byte {
	var l [][]byte
	for _, v := range values {
		l = append(l, []byte(v))
	}
	return l
}

// has checks that these are the names of s.
func has(t *testing.T, s string, want ...string) {
	t.Helper()
	if l, at, e := vars.Names([]byte(s)); !slices.Equal(l, want) || at != 0 || e != api.OK {
		t.Fatalf("Names(%s): %s, %d, error %d, not %s", shown(s), shownAll(l), at, e, shownAll(want))
	}
}

// isWrong checks that Names returns ErrForm at this index, and no names, and that Fill returns ErrForm, whatever the names and values.
func isWrong(t *testing.T, s string, index int) {
	t.Helper()
	if l, at, e := vars.Names([]byte(s)); len(l) != 0 || at != index || e != api.ErrForm {
		t.Fatalf("Names(%s): %s, %d, error %d, not error %d at %d", shown(s), shownAll(l), at, e, api.ErrForm, index)
	}
	fails(t, s, nil, nil, api.ErrForm)
	fails(t, s, []string{"", "a", "v", "A", "$"}, []string{"x", "y", "z", "w", "u"}, api.ErrForm)
}

// fills checks that s is filled as want.
func fills(t *testing.T, s string, names, values []string, want string) {
	t.Helper()
	if b, e := vars.Fill([]byte(s), names, list(values)); string(b) != want || e != api.OK {
		t.Fatalf("Fill(%s, %s, %s): %s, error %d, not %s", shown(s), shownAll(names), shownAll(values), shown(string(b)), e, shown(want))
	}
}

// fails checks that Fill returns this error, and no text.
func fails(t *testing.T, s string, names, values []string, want api.Errno) {
	t.Helper()
	if b, e := vars.Fill([]byte(s), names, list(values)); len(b) != 0 || e != want {
		t.Fatalf("Fill(%s, %s, %s): %s, error %d, not error %d", shown(s), shownAll(names), shownAll(values), shown(string(b)), e, want)
	}
}

// namesAgree checks Names against the second one; it returns the error that both return.
func namesAgree(t *testing.T, s string) api.Errno {
	t.Helper()
	names, at, e := slowNames(s)
	if e != api.OK {
		isWrong(t, s, at)
	} else {
		has(t, s, names...)
	}
	return e
}

// fillAgrees checks Fill against the second one, and P13.3; it returns the error that both return.
func fillAgrees(t *testing.T, s string, names, values []string) api.Errno {
	t.Helper()
	want, e := slowFill(s, names, values)
	if e != api.OK {
		fails(t, s, names, values, e)
		return e
	}
	fills(t, s, names, values, want)
	b, _ := vars.Fill([]byte(s), names, list(values))
	if strings.ContainsAny(string(b), "\n\r\x15") || len(b) > 200 {
		t.Fatalf("Fill(%s, %s, %s): %s", shown(s), shownAll(names), shownAll(values), shown(string(b)))
	}
	return api.OK
}

func TestExample(t *testing.T) {
	fills(t, "a$$b$v", []string{"v"}, []string{"x"}, "a$bx")
	has(t, "a$$b$v", "v")
}

func TestNoText(t *testing.T) {
	for _, s := range [][]byte{nil, {}} {
		if l, at, e := vars.Names(s); len(l) != 0 || at != 0 || e != api.OK {
			t.Fatalf("Names of no text: %v, %d, error %d", l, at, e)
		}
		for _, names := range [][]string{nil, {}, {"a"}, {"", "a", "a"}} {
			for _, values := range [][][]byte{nil, {}, {nil}, {{}}, {[]byte("x"), nil, []byte("y"), []byte("z")}} {
				if b, e := vars.Fill(s, names, values); len(b) != 0 || e != api.OK {
					t.Fatalf("Fill of no text, %q, %q: %q, error %d", names, values, b, e)
				}
			}
		}
	}
}

// P13.1: the names of ordinary lines.
func TestOrdinaryNames(t *testing.T) {
	has(t, "show version")
	has(t, "login $user", "user")
	has(t, "$user", "user")
	has(t, "ping $host count $n1, $n_2.", "host", "n1", "n_2")
	has(t, "cost: $$5 for $user", "user")
	has(t, "$user$$", "user")
	has(t, "$user@$host:$port/$path", "user", "host", "port", "path")
	has(t, "$zz $b $a $zz", "zz", "b", "a", "zz")
	has(t, "\x00\x7f\xff$a\x80$b\xc3\xa9", "a", "b")
	isWrong(t, "cost: $5", 6)
	isWrong(t, "login $user for $", 16)
	isWrong(t, "login $USER", 6)
	isWrong(t, "${user}", 0)
	isWrong(t, "$(user)", 0)
	isWrong(t, "a $ b", 2)
	isWrong(t, "$a$ b", 2)
}

// An even number of $ stands for half of them; of an odd number, the last one is that of a name, or wrong.
func TestDollars(t *testing.T) {
	for count := 1; count < 64; count++ {
		dollars := strings.Repeat("$", count)
		half := strings.Repeat("$", count/2)
		names, values := []string{"a", "a0"}, []string{"X", "Y"}
		if count%2 == 0 {
			has(t, dollars)
			fills(t, dollars, names, values, half)
			has(t, dollars+"a")
			fills(t, dollars+"a", names, values, half+"a")
			fills(t, dollars+"a", nil, nil, half+"a")
			has(t, dollars+"A")
			has(t, "b"+dollars+"9_"+dollars+" ")
			has(t, "$a"+dollars, "a")
			fills(t, "$a"+dollars, names, values, "X"+half)
			has(t, "$a0"+dollars+"a", "a0")
			fills(t, "$a0"+dollars+"a", names, values, "Y"+half+"a")
			continue
		}
		isWrong(t, dollars, count-1)
		isWrong(t, "ab"+dollars, 2+count-1)
		isWrong(t, dollars+" ", count-1)
		isWrong(t, dollars+" $", count-1)
		isWrong(t, dollars+"A", count-1)
		isWrong(t, dollars+"0", count-1)
		isWrong(t, dollars+"_", count-1)
		isWrong(t, dollars+"\n$", count-1)
		isWrong(t, "$a"+dollars, 2+count-1)
		isWrong(t, "$a0"+dollars+" ", 3+count-1)
		has(t, dollars+"a", "a")
		fills(t, dollars+"a", names, values, half+"X")
		has(t, dollars+"a$$", "a")
		fills(t, dollars+"a0$$", names, values, half+"Y$")
		has(t, "$a"+dollars+"a", "a", "a")
		fills(t, "$a0"+dollars+"a", names, values, "Y"+half+"X")
		isWrong(t, dollars+"a$", count+1)
	}
}

func everyByte() string {
	b := make([]byte, 256)
	for i := range b {
		b[i] = byte(i)
	}
	return string(b)
}

// Also the bytes beside a and z, 0 and 9, _ and $.
func TestEveryByteBehindDollar(t *testing.T) {
	all := everyByte()
	for i := range all {
		s := all[i : i+1]
		isLetter, isDigit := strings.Contains(letters, s), strings.Contains(digits, s)
		switch {
		case isLetter:
			has(t, "$"+s, s)
			has(t, "x$"+s+" y", s)
			has(t, "$$"+s)
			has(t, "$$$"+s+"0", s+"0")
		case s == "$":
			has(t, "$"+s)
		default:
			isWrong(t, "$"+s, 0)
			isWrong(t, "x$"+s+"y", 1)
			isWrong(t, "$"+s+"$", 0)
			has(t, "$$"+s)
			isWrong(t, "$$$"+s, 2)
		}
		switch {
		case isLetter || isDigit || s == "_":
			has(t, "$a"+s, "a"+s)
			has(t, "$z"+s+"b.", "z"+s+"b")
			has(t, "$a_9"+s+s+"$a", "a_9"+s+s, "a")
		case s == "$":
			isWrong(t, "$a"+s, 2)
			has(t, "$a"+s+"b", "a", "b")
		default:
			has(t, "$a"+s, "a")
			has(t, "$z"+s+"b.", "z")
			has(t, "$a_9"+s+s+"$a", "a_9", "a")
		}
		if s != "$" {
			has(t, s)
			has(t, s+s+"$a"+s+"$$"+s, longestName("a"+s))
		}
	}
}

func TestSizesOfNames(t *testing.T) {
	for size := 1; size <= 40; size++ {
		for _, of := range []string{letters, "a", "z", "a0", "a_", "z9", "a_0z9", "q__"} {
			name := strings.Repeat(of, size)[:size]
			if size <= 20 {
				has(t, "$"+name, name)
				has(t, "$"+name+"$"+name, name, name)
				has(t, "b$$$"+name+"-$c", name, "c")
				fills(t, "<$"+name+">", []string{name}, []string{"x"}, "<x>")
				continue
			}
			isWrong(t, "$"+name, 0)
			isWrong(t, "b $"+name+" $c", 2)
			isWrong(t, "$c$$$"+name+"$", 4)
			has(t, name)
			has(t, "$$"+name)
			// The first 20 bytes are not a name with something behind it.
			fails(t, "$"+name, []string{name[:20], name}, []string{"x", "y"}, api.ErrForm)
		}
	}
	for _, size := range []int{100, 255, 256, 276, 65536, 65556, 1 << 20} {
		isWrong(t, "a$"+strings.Repeat("a", size), 1)
	}
	// What may not be in a name ends it.
	for _, end := range []string{"A", "$$", "\n", "\x80", " ", "-", "\x15"} {
		name := strings.Repeat("b", 20)
		has(t, "$"+name+end+name, name)
		isWrong(t, "$"+name+"b"+end+name, 0)
	}
}

func TestNamesAsOftenAsTheyOccur(t *testing.T) {
	has(t, "$a$a", "a", "a")
	has(t, "$a $b $a$b$a", "a", "b", "a", "b", "a")
	has(t, "$b$a", "b", "a")
	has(t, "$a$ab$abc", "a", "ab", "abc")
	has(t, "$abc$ab$a", "abc", "ab", "a")
	has(t, "$a$$a$a", "a", "a")
	has(t, "$a$$$$a$a", "a", "a")
	has(t, "$a$$$a", "a", "a")
	for _, count := range []int{8, 9, 30, 200, 201, 2000, 20000} {
		want := make([]string, count)
		text := ""
		for i := range want {
			want[i] = fmt.Sprintf("v%d", i%10)
			text += "$" + want[i]
		}
		has(t, text, want...)
		has(t, text+"$$", want...)
		isWrong(t, text+"$", 3*count)
	}
}

// P13.1: the first of several errors counts, and no names are returned.
func TestFirstError(t *testing.T) {
	errors := []string{"$", "$ ", "$A", "$0", "$_", "$_a", "$\n", "$\r", "$\x15", "$\x80", "$\xff", "$" + strings.Repeat("a", 21), "$" + strings.Repeat("b", 300) + " "}
	for _, before := range []string{"", "a", "$$", "$a", "$a ", "$a$$", "$$$a", "\n", "\r\x15", "A_0 ", "$" + strings.Repeat("c", 20) + ".", strings.Repeat("$a$b ", 300), strings.Repeat("x", 5000)} {
		for _, first := range errors {
			for _, behind := range []string{"", " ", "-$$", " $a", " $$ $a $$"} {
				text := before + first + behind
				isWrong(t, text, len(before))
				for _, second := range errors {
					isWrong(t, text+"."+second, len(before))
				}
			}
		}
	}
}

// No length of a text is an error of Names.
func TestLongTexts(t *testing.T) {
	for _, size := range []int{199, 200, 201, 1999, 2000, 2001, 100000} {
		for _, unit := range []string{"a", "$$", "\n", "\xff", "A ", "_9$$"} {
			text := strings.Repeat(unit, size)
			has(t, text)
			has(t, text+"$a.", "a")
			isWrong(t, text+"$", len(text))
			isWrong(t, text+"$.$a", len(text))
		}
	}
}

// P13.2: ordinary lines.
func TestOrdinaryLines(t *testing.T) {
	names, values := []string{"user", "host", "n1", "n_2", "empty"}, []string{"root", "10.0.0.1", "5", "a b", ""}
	fills(t, "show version", names, values, "show version")
	fills(t, "login $user", names, values, "login root")
	fills(t, "ping $host count $n1, $n_2.", names, values, "ping 10.0.0.1 count 5, a b.")
	fills(t, "$user$host$user", names, values, "root10.0.0.1root")
	fills(t, "$user$$$host$$user", names, values, "root$10.0.0.1$user")
	fills(t, "cost: $$5", names, values, "cost: $5")
	fills(t, "$empty", names, values, "")
	fills(t, "<$empty$empty>", names, values, "<>")
	fills(t, "$n1$n1$n1", names, values, "555")
	fills(t, "\x00\x7f\xff$n1\x80", names, values, "\x00\x7f\xff5\x80")
	fails(t, "$password", names, values, api.ErrName)
	fails(t, "$user $", names, values, api.ErrForm)
	fails(t, strings.Repeat("$host ", 25), names, values, api.ErrFull)
}

func TestUnknownNames(t *testing.T) {
	for _, s := range []string{"$v", "$v$v", "a$v", "$v.", "$$$v", "$a$v", "$v$a", "$a $v $a", "$v\n", "\n$v"} {
		fails(t, s, nil, nil, api.ErrName)
		fails(t, s, nil, []string{"x", "y"}, api.ErrName)
		for _, names := range [][]string{{"a"}, {"a", "vv", "v_", "v0", "va", "u", "w"}, {"V", "a", "A"}, {"a", ""}, {"$v", "a"}, {"a", "v ", " v", "v\n", "v\x00", "$$v"}} {
			fails(t, s, names, nil, api.ErrName)
			fails(t, s, names, []string{"x", "y", "z", "w", "", "v", "$v", "q", "r"}, api.ErrName)
		}
	}
	// A name is no other one that begins like it.
	fails(t, "$va", []string{"v"}, []string{"x"}, api.ErrName)
	fails(t, "$v_", []string{"v"}, []string{"x"}, api.ErrName)
	fails(t, "$v0", []string{"v"}, []string{"x"}, api.ErrName)
	fails(t, "$v", []string{"va"}, []string{"x"}, api.ErrName)
	fills(t, "$v A", []string{"v"}, []string{"x"}, "x A")
	fills(t, "$vA$v-$v.$v\xff", []string{"v"}, []string{"x"}, "xAx-x.x\xff")
	fills(t, "$va$v$v0", []string{"v", "v0", "va"}, []string{"x", "y", "z"}, "zxy")
	twenty := strings.Repeat("v", 20)
	fills(t, "$"+twenty, []string{twenty[1:], twenty}, []string{"x", "y"}, "y")
	fails(t, "$"+twenty, []string{twenty[1:], twenty + "v"}, []string{"x", "y"}, api.ErrName)
	// A variable that fills nothing must be known too.
	fails(t, "$v", []string{"a"}, []string{""}, api.ErrName)
	fills(t, "$a", []string{"a"}, []string{""}, "")
}

// Names that are not used, or that no text can use, are no error.
func TestNamesOfNoUse(t *testing.T) {
	odd := []string{"", "A", "0", "_", "$", "$$", "$a", "a b", "a$", "aB", "a-", "\n", "\xff", "a\xff", strings.Repeat("a", 21), strings.Repeat("b", 1000)}
	values := make([]string, len(odd))
	for i := range values {
		values[i] = "wrong"
	}
	for _, s := range []string{"", "a", "$$", "a$$b", "A $$A", "$$$$", "0_ a b"} {
		want := strings.ReplaceAll(s, "$$", "$")
		fills(t, s, nil, nil, want)
		fills(t, s, nil, values, want)
		fills(t, s, odd, values, want)
		fills(t, s, odd, nil, want)
		fills(t, s, []string{"a", "b"}, values, want)
		fills(t, s+"$v", append(slices.Clone(odd), "v"), append(slices.Clone(values), "x"), want+"x")
		fills(t, "$v."+s, append([]string{"v"}, odd...), append([]string{"x"}, values...), "x."+want)
	}
	for i, name := range odd {
		// They keep their places.
		fills(t, "<$v>", []string{name, "v", name}, []string{"y", "x", "z"}, "<x>")
		fills(t, "<$a$v$b>", []string{"a", name, name, "b", "v"}, []string{"1", "2", "3", "4", "5"}, "<154>")
		fails(t, "$v", odd[:i+1], values, api.ErrName)
	}
	isWrong(t, "$"+odd[len(odd)-1], 0)
	fails(t, "$", []string{""}, []string{"x"}, api.ErrForm)
	fails(t, "$A", []string{"A"}, []string{"x"}, api.ErrForm)
	fails(t, "$0", []string{"0"}, []string{"x"}, api.ErrForm)
	fails(t, "$ ", []string{" "}, []string{"x"}, api.ErrForm)
	fills(t, "$$", []string{"$"}, []string{"x"}, "$")
	fills(t, "$aB", []string{"aB", "a"}, []string{"x", "y"}, "yB")
}

func TestNameThatStandsTwice(t *testing.T) {
	fills(t, "$v", []string{"v", "v"}, []string{"x", "y"}, "x")
	fills(t, "$v", []string{"a", "v", "b", "v"}, []string{"1", "x", "2", "y"}, "x")
	fills(t, "$v$v", []string{"v", "v", "v"}, []string{"x", "y", "z"}, "xx")
	fills(t, "$a$v$b", []string{"v", "a", "v", "b", "a"}, []string{"x", "1", "y", "2", "3"}, "1x2")
	fills(t, "<$v>", []string{"v", "v"}, []string{"", "y"}, "<>")
	// The values end behind the first one, or ahead of it.
	fills(t, "$v", []string{"v", "v"}, []string{"x"}, "x")
	fills(t, "<$v>", []string{"a", "v", "v"}, []string{"x"}, "<>")
	fills(t, "<$v>", []string{"v", "v"}, nil, "<>")
	// What the later one would be is not counted.
	fills(t, "$v", []string{"v", "v"}, []string{"x", strings.Repeat("y", 500)}, "x")
	fails(t, "$v", []string{"v", "v"}, []string{strings.Repeat("y", 500), "x"}, api.ErrFull)
}

func TestFewerOrMoreValuesThanNames(t *testing.T) {
	names := []string{"a", "b", "c", "d"}
	values := []string{"1", "2", "3", "4", "5", "6"}
	for count := range len(values) + 1 {
		want := strings.Join(values[:min(count, 4)], "")
		fills(t, "$a$b$c$d", names, values[:count], want)
		fills(t, "<$d>", names, values[:count], "<"+strings.Join(values[min(count, 3):min(count, 4)], "")+">")
		fails(t, "$a$e", names, values[:count], api.ErrName)
	}
	for _, s := range []string{"$a", "$d", "$a$b$c$d"} {
		for _, values := range [][][]byte{nil, {}, {nil}, {nil, nil, nil, nil}, {{}, {}}, {nil, {}, nil, {}, nil, []byte("x")}} {
			if b, e := vars.Fill([]byte("<"+s+">"), names, values); string(b) != "<>" || e != api.OK {
				t.Fatalf("Fill(<%s>, %q, %q): %q, error %d", s, names, values, b, e)
			}
		}
	}
	// A list with more memory than elements has no more of them.
	if b, e := vars.Fill([]byte("<$a$b>"), names[:2], list(values)[:1]); string(b) != "<1>" || e != api.OK {
		t.Fatalf("Fill with one value: %q, error %d", b, e)
	}
	if b, e := vars.Fill([]byte("<$c>"), names[:2], list(values)); len(b) != 0 || e != api.ErrName {
		t.Fatalf("Fill with two names: %q, error %d", b, e)
	}
}

// What a value has is not replaced in its turn, and not joined with what stands beside it.
func TestDollarsInValues(t *testing.T) {
	names := []string{"a", "b", "ab"}
	for _, value := range []string{"$", "$$", "$$$", "$a", "$b", "a$b", "$$b", "$A", "$0", "$ ", "x$", "$unknown", "$" + strings.Repeat("a", 30), strings.Repeat("$", 99)} {
		values := []string{value, "Y", "Z"}
		fills(t, "$a", names, values, value)
		fills(t, "$a$b", names, values, value+"Y")
		fills(t, "$b$a", names, values, "Y"+value)
		fills(t, "$a$a", names, values, value+value)
		fills(t, "$ab", names, values, "Z")
		fills(t, "$a.b", names, values, value+".b")
		fills(t, "$a$$", names, values, value+"$")
		fills(t, "$$$a", names, values, "$"+value)
		fills(t, "$$$a$$b", names, values, "$"+value+"$b")
	}
	fills(t, "$$$a", []string{"a"}, []string{"b"}, "$b")
	fills(t, "$ab", []string{"ab", "a"}, []string{"x", "a"}, "x")
	fills(t, "$a\nb", []string{"ab", "a"}, []string{"x", "y"}, "yb")
}

// Bytes 10, 13 and 21 are omitted, of the text and of values; no other ones.
func TestOmittedBytes(t *testing.T) {
	names := []string{"v", "w", "vw"}
	all := everyByte()
	for i := range all {
		s := all[i : i+1]
		stays := s
		if i == 10 || i == 13 || i == 21 {
			stays = ""
		}
		for _, value := range []string{s, "a" + s, s + "b", "a" + s + s + "b"} {
			want := strings.ReplaceAll(value, s, stays)
			fills(t, "$v", names, []string{value}, want)
			fills(t, "<$v$w>", names, []string{value, value}, "<"+want+want+">")
			if s != "$" {
				fills(t, value, nil, nil, want)
				fills(t, value+"$$"+value, nil, nil, want+"$"+want)
				fills(t, "$$"+value+"-$v-"+value, names, []string{value}, "$"+want+"-"+want+"-"+want)
			}
		}
	}
	fills(t, "a\nb\rc\x15d", nil, nil, "abcd")
	fills(t, "\n\r\x15\r\n", nil, nil, "")
	fills(t, "$v", names, []string{"\n\r\x15\x15"}, "")
	fills(t, "$v", names, []string{"\nroot\r\n"}, "root")
	fills(t, "send\r\n$v\r\n", names, []string{"1\r\n2"}, "send12")
	// They are omitted when the variables have been found: they end a name, and may not stand between $ and what belongs to it.
	for _, s := range []string{"\n", "\r", "\x15"} {
		fills(t, "$v"+s+"w", names, []string{"x", "y", "z"}, "xw")
		fills(t, "$v"+s+"$w", names, []string{"x", "y", "z"}, "xy")
		fills(t, s+"$$"+s+"v", names, []string{"x", "y", "z"}, "$v")
		isWrong(t, "$"+s+"v", 0)
		isWrong(t, "$"+s+"$", 0)
		isWrong(t, "$v$"+s, 2)
		has(t, "$v"+s+"w", "v")
	}
}

// P13.2: 200 bytes are not too many, and 201 are, however they come about.
func TestLengthOfLines(t *testing.T) {
	xs := func(size int) string { return strings.Repeat("x", size) }
	names := []string{"v", "one", "none"}
	for size := 190; size <= 210; size++ {
		lines := []struct{ text, value, want string }{
			{xs(size), "", xs(size)},
			{"$v", xs(size), xs(size)},
			{"$v-" + xs(89), xs(size - 90), xs(size-90) + "-" + xs(89)},
			{xs(90) + "$v", xs(size - 90), xs(size)},
			{"a$v-" + xs(size-100) + "b$none", xs(97), "a" + xs(97) + "-" + xs(size-100) + "b"},
			{"$v$v", xs(size / 2), xs(2 * (size / 2))},
			{strings.Repeat("$$", size), "", strings.Repeat("$", size)},
			{strings.Repeat("$one", size), "", strings.Repeat("1", size)},
			{strings.Repeat("$one$none", size), "", strings.Repeat("1", size)},
			{strings.Repeat("$$", size-10) + "$v", strings.Repeat("$", 10), strings.Repeat("$", size)},
			{strings.Repeat("\n", 300) + xs(size) + strings.Repeat("\r\x15", 300), "", xs(size)},
			{strings.Repeat("x\n", size), "", xs(size)},
			{strings.Repeat("\x15\rx", size), "", xs(size)},
			{"$v", strings.Repeat("\rx\n\x15", size), xs(size)},
			{"$v", strings.Repeat("\x15", 1000) + xs(size) + strings.Repeat("\r", 1000), xs(size)},
			{"\n$v\n" + xs(size-1), "\nx\n", xs(size)},
			{xs(size-1) + "\n\n$v", "\r\rx\r", xs(size)},
			{xs(size) + "$v", "\n\r\x15", xs(size)},
			{xs(size) + "\n$none\r", "", xs(size)},
			{strings.Repeat("\xff", size), "", strings.Repeat("\xff", size)},
			{strings.Repeat("é", size)[:size], "", strings.Repeat("é", size)[:size]},
		}
		for _, line := range lines {
			values := []string{line.value, "1"}
			if len(line.want) > 200 {
				fails(t, line.text, names, values, api.ErrFull)
			} else {
				fills(t, line.text, names, values, line.want)
			}
		}
	}
	for _, size := range []int{201, 256, 400, 456, 2000, 65536, 65736, 1 << 20} {
		fails(t, xs(size), nil, nil, api.ErrFull)
		fails(t, "$v", names, []string{xs(size)}, api.ErrFull)
		fails(t, "\n$v\n", names, []string{"\n" + xs(size)}, api.ErrFull)
		fails(t, strings.Repeat("$v", size), names, []string{"x"}, api.ErrFull)
		fills(t, strings.Repeat("$v", size), names, nil, "")
		fills(t, strings.Repeat("\n", size), names, nil, "")
		fills(t, "$v", names, []string{strings.Repeat("\r", size)}, "")
	}
	// A value that is longer than one which a run stores is filled whole.
	for size := 95; size <= 200; size++ {
		fills(t, "$v", names, []string{xs(size)}, xs(size))
	}
}

// P13.2: which error is returned where several hold, wherever in the text they are.
func TestWhichError(t *testing.T) {
	long := strings.Repeat("x", 201)
	faults := []struct {
		text string
		e    api.Errno
	}{
		{"$.", api.ErrForm},
		{"$A.", api.ErrForm},
		{"$" + strings.Repeat("a", 21) + ".", api.ErrForm},
		{"$unknown.", api.ErrName},
		{"$b.", api.ErrName},
		{long, api.ErrFull},
		{"$long.", api.ErrFull},
		{strings.Repeat("$a.", 101), api.ErrFull},
		{"$a.", api.OK},
		{"\n", api.OK},
	}
	rank := func(e api.Errno) int {
		return slices.Index([]api.Errno{api.OK, api.ErrFull, api.ErrName, api.ErrForm}, e)
	}
	names, values := []string{"a", "long", "A"}, []string{"1", long, "2", "3"}
	for _, first := range faults {
		for _, second := range faults {
			for _, third := range faults {
				want := api.OK
				for _, e := range []api.Errno{first.e, second.e, third.e} {
					if rank(e) > rank(want) {
						want = e
					}
				}
				text := first.text + second.text + third.text
				if want != api.OK {
					fails(t, text, names, values, want)
				}
				fillAgrees(t, text, names, values)
			}
		}
	}
}

// everyText calls check with s and up to size more of these bytes behind it.
func everyText(s, of string, size int, check func(string)) {
	check(s)
	if size == 0 {
		return
	}
	for i := range len(of) {
		everyText(s+of[i:i+1], of, size-1, check)
	}
}

func TestShortTextsAgainstWords(t *testing.T) {
	seen := map[api.Errno]int{}
	check := func(s string) { seen[namesAgree(t, s)]++ }
	everyText("", everyByte(), 2, check)
	everyText("", "$a0_.A\xff", 6, check)
	everyText("", "$az09_A\n\r\x15\x80` {", 4, check)
	nineteen := strings.Repeat("a", 19)
	for _, s := range []string{"$", "$a", "$$", "$$$", "$a$", "$a0_", "$" + nineteen, "$" + nineteen + "b", "$" + nineteen + "bc", "$$" + nineteen, nineteen + "$"} {
		everyText(s, everyByte(), 1, check)
		everyText(s, "$a0_A\xff", 4, check)
	}
	if seen[api.OK] < 10000 || seen[api.ErrForm] < 10000 {
		t.Fatalf("too few of a kind: %v", seen)
	}
}

func TestShortLinesAgainstWords(t *testing.T) {
	lists := []struct{ names, values []string }{
		{nil, nil},
		{[]string{"a"}, nil},
		{[]string{"a"}, []string{"x$a\n"}},
		{[]string{"b", "a", "ab", "a"}, []string{"1", "\r2\x15", "33", "4", "5"}},
		{[]string{"", "A", "a", "aa", "b", "ba", "a_"}, []string{"0", "1", "", strings.Repeat("y", 101), strings.Repeat("z", 199)}},
	}
	seen := map[api.Errno]int{}
	check := func(s string) {
		for _, l := range lists {
			seen[fillAgrees(t, s, l.names, l.values)]++
		}
	}
	everyText("", everyByte(), 1, check)
	everyText("", "$ab_\n", 6, check)
	everyText("", "$abA\x15\xff.", 4, check)
	for _, s := range []string{"$a", "$aa$a", "$b", "$$"} {
		everyText(s, "$ab\r", 5, check)
	}
	if seen[api.OK] < 10000 || seen[api.ErrForm] < 10000 || seen[api.ErrName] < 10000 || seen[api.ErrFull] < 1000 {
		t.Fatalf("too few of a kind: %v", seen)
	}
}

// name returns a name, or, rarely, something like one.
func (n *numbers) name() string {
	switch n.below(40) {
	case 0:
		return n.bytes(letters, 18+n.below(5))
	case 1:
		return n.bytes("a0_A$ \n", n.below(3))
	}
	return n.one("a", "b", "ab", "a0", "a_", "user", "host", "n_1", "abcdefghijklmnopqrst")
}

// value returns a value, mostly a short one.
func (n *numbers) value() string {
	switch n.below(20) {
	case 0:
		return n.bytes("x\n\r\x15$", n.below(300))
	case 1:
		return n.bytes(everyByte(), n.below(100))
	}
	return n.one("", "x", "$a", "$", "10.0.0.1", "a\nb", "\r\n", "\x15y", "root", "$$", "\xff")
}

// text returns a text of size parts.
func (n *numbers) text(size int) string {
	s := ""
	for range size {
		switch n.below(8) {
		case 0:
			s += "$$"
		case 1, 2:
			s += "$" + n.name()
		case 3:
			s += "$" + n.name() + n.one(" ", ".", "-", "\n", "A")
		default:
			s += n.bytes(n.one("ab01_ .", "A\n\r\x15", "\x00\x7f\x80\xff", letters), n.below(12))
		}
	}
	return s
}

// rightText returns a text of size parts without an error, and with names that lists returns.
func (n *numbers) rightText(size int) string {
	s := ""
	for range size {
		switch n.below(4) {
		case 0:
			s += "$$"
		case 1:
			s += n.one("$a0", "$a_", "$user", "$host") + n.one(" ", ".", "-", "\n", "A", "$$")
		default:
			s += n.bytes(n.one("ab01_ .", "A\n\r\x15", "\x00\x7f\x80\xff"), n.below(12)) + "."
		}
	}
	return s
}

// lists returns names and values, of any lengths.
func (n *numbers) lists() ([]string, []string) {
	names := []string{"a", "b", "ab", "a0", "a_", "user", "host", "n_1", "abcdefghijklmnopqrst"}[n.below(3):]
	for range n.below(6) {
		names = slices.Insert(slices.Clone(names), n.below(len(names)), n.name())
	}
	var values []string
	for range n.below(len(names) + 6) {
		values = append(values, n.value())
	}
	return names, values
}

func TestLinesAgainstWords(t *testing.T) {
	n := numbers(1)
	seen := map[api.Errno]int{}
	for range 60000 {
		s := n.text(n.below(10))
		names, values := n.lists()
		namesAgree(t, s)
		seen[fillAgrees(t, s, names, values)]++
	}
	if seen[api.OK] < 10000 || seen[api.ErrForm] < 1000 || seen[api.ErrName] < 1000 {
		t.Fatalf("too few of a kind: %v", seen)
	}
	clear(seen)
	for range 5000 {
		s := n.rightText(20 + n.below(40))
		names, values := n.lists()
		namesAgree(t, s)
		seen[fillAgrees(t, s, names, values)]++
	}
	if seen[api.OK] < 1000 || seen[api.ErrFull] < 1000 || seen[api.ErrForm]+seen[api.ErrName] > 0 {
		t.Fatalf("too few of a kind: %v", seen)
	}
}

func TestAnyTextsAgainstWords(t *testing.T) {
	n := numbers(2)
	seen := map[api.Errno]int{}
	for range 60000 {
		s := n.bytes(n.one("$a", "$ab", "$a.", "$a0_ ", "$$$a\n", "$abcA01_\n\r\x15\x80", everyByte()), n.below(40))
		names, values := n.lists()
		seen[namesAgree(t, s)]++
		fillAgrees(t, s, names, values)
	}
	for range 300 {
		s := strings.ReplaceAll(n.bytes("ab_0 .A\n\xff", 300), "A", n.one("$a ", "$$", "$user$b"))
		if n.below(2) == 0 {
			s += "$"
		}
		names, values := n.lists()
		seen[namesAgree(t, s)]++
		fillAgrees(t, s, names, values)
	}
	if seen[api.OK] < 5000 || seen[api.ErrForm] < 5000 {
		t.Fatalf("too few of a kind: %v", seen)
	}
}

// P13.3: a text without $ and without the bytes that are omitted stands for itself, whatever the names and values.
func TestTextThatStandsForItself(t *testing.T) {
	n := numbers(3)
	plain := strings.NewReplacer("$", "", "\n", "", "\r", "", "\x15", "").Replace(everyByte())
	if len(plain) != 252 {
		t.Fatalf("%d bytes stand for themselves", len(plain))
	}
	for size := range 201 {
		for range 20 {
			s := n.bytes(plain, size)
			names, values := n.lists()
			fills(t, s, names, values, s)
			has(t, s)
		}
	}
	for from := 0; from < len(plain); from += 100 {
		s := plain[from:min(from+100, len(plain))]
		fills(t, s, nil, nil, s)
		fills(t, "$v", []string{"v"}, []string{s}, s)
	}
	fills(t, letters+"ABCZ"+digits+" _-.,:;/\\\"'`~!@#%^&*()[]{}<>|=+?", []string{"a"}, []string{"x"}, letters+"ABCZ"+digits+" _-.,:;/\\\"'`~!@#%^&*()[]{}<>|=+?")
	// A line that was filled, without $, stands for itself too.
	count := 0
	for range 5000 {
		names, values := n.lists()
		b, e := vars.Fill([]byte(n.text(n.below(8))), names, list(values))
		if e == api.OK && !strings.Contains(string(b), "$") {
			fills(t, string(b), nil, nil, string(b))
			count++
		}
	}
	if count < 500 {
		t.Fatalf("only %d lines", count)
	}
}
