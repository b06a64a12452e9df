package runbook_test

import (
	"bytes"
	"fmt"
	"slices"
	"strconv"
	"strings"
	"testing"

	"davit/api"
	"davit/lex"
	"davit/runbook"
)

// The call has exactly this signature, and the types have these fields.
var (
	_ func([]byte) (runbook.Book, int, api.Errno) = runbook.Parse

	_ = struct {
		At      int
		Pattern []byte
		As, Go  string
	}(runbook.Arm{})
	_ = struct {
		At        int
		Name      string
		Tag       int
		Sends     bool
		Send      []byte
		Arms      []runbook.Arm
		Time, Try int
		Else      string
	}(runbook.Step{})
	_ = struct {
		Most  int
		Steps []runbook.Step
	}(runbook.Book{})
)

// numbers yields the same numbers in every test run.
type numbers uint64

func (n *numbers) below(most int) int {
	*n = *n*6364136223846793005 + 1442695040888963407
	return int(uint32(*n>>33)) % most
}

// one returns one of these.
func (n *numbers) one(of ...string) string {
	return of[n.below(len(of))]
}

func sameArm(a, b runbook.Arm) bool {
	return a.At == b.At && bytes.Equal(a.Pattern, b.Pattern) && a.As == b.As && a.Go == b.Go
}

func sameStep(a, b runbook.Step) bool {
	return a.At == b.At && a.Name == b.Name && a.Tag == b.Tag && a.Sends == b.Sends && bytes.Equal(a.Send, b.Send) &&
		slices.EqualFunc(a.Arms, b.Arms, sameArm) && a.Time == b.Time && a.Try == b.Try && a.Else == b.Else
}

func same(a, b runbook.Book) bool {
	return a.Most == b.Most && slices.EqualFunc(a.Steps, b.Steps, sameStep)
}

// shown tells of a text in a message.
func shown(s string) string {
	if len(s) <= 400 {
		return fmt.Sprintf("%q", s)
	}
	return fmt.Sprintf("%q .. %d bytes", s[:400], len(s))
}

// yields checks that s is a runbook, and this one.
func yields(t *testing.T, s string, want runbook.Book) {
	t.Helper()
	b, i, e := runbook.Parse([]byte(s))
	if e != api.OK || i != 0 || !same(b, want) {
		t.Fatalf("Parse(%s): %v, %d, error %d, not %v", shown(s), b, i, e, want)
	}
}

// fails checks that Parse returns this error at this index, and nothing else.
func fails(t *testing.T, s string, index int, want api.Errno) {
	t.Helper()
	if b, i, e := runbook.Parse([]byte(s)); b.Most != 0 || len(b.Steps) != 0 || i != index || e != want {
		t.Fatalf("Parse(%s): %v, %d, error %d, not error %d at %d", shown(s), b, i, e, want, index)
	}
}

// agrees checks Parse against the second one; it returns the error that both return.
func (r reader) agrees(t *testing.T, s string) api.Errno {
	t.Helper()
	b, i, e := r.slowParse([]byte(s))
	if e != api.OK {
		fails(t, s, i, e)
	} else {
		yields(t, s, b)
	}
	return e
}

func steps(l ...runbook.Step) runbook.Book {
	return runbook.Book{Most: 100, Steps: l}
}

func TestExample(t *testing.T) {
	yields(t, `step a on "x" go done within 5 else fail end`, steps(
		runbook.Step{Name: "a", Arms: []runbook.Arm{{At: 7, Pattern: []byte("x"), Go: "done"}}, Time: 5, Else: "fail"}))
}

func TestOrdinaryRunbooks(t *testing.T) {
	yields(t, "most 7\nstep a once send \"hi\" on \"x\" as v go b on \"y\" go done within 5 else doubt end step b idem send \"\" within 9 tries 2 else a end step c within 1 else fail end", runbook.Book{Most: 7, Steps: []runbook.Step{
		{At: 7, Name: "a", Tag: api.Once, Sends: true, Send: []byte("hi"), Arms: []runbook.Arm{{At: 29, Pattern: []byte("x"), As: "v", Go: "b"}, {At: 46, Pattern: []byte("y"), Go: "done"}}, Time: 5, Else: "doubt"},
		{At: 85, Name: "b", Tag: api.Idem, Sends: true, Time: 9, Try: 2, Else: "a"},
		{At: 133, Name: "c", Time: 1, Else: "fail"},
	}})
	yields(t, "# log in\nmost 50 # visits\r\n\r\nstep log_in idem\n\tsend \"root\\\"$x\" # a name\n\ton \"Pass\\\\w+: \" as p go pass_1\n\twithin 10 tries 2 else fail\nend\n", runbook.Book{Most: 50, Steps: []runbook.Step{
		{At: 29, Name: "log_in", Tag: api.Idem, Sends: true, Send: []byte(`root"$x`), Arms: []runbook.Arm{{At: 73, Pattern: []byte(`Pass\\w+: `), As: "p", Go: "pass_1"}}, Time: 10, Try: 2, Else: "fail"},
	}})
}

func TestNoSteps(t *testing.T) {
	for _, s := range [][]byte{nil, {}} {
		if b, i, e := runbook.Parse(s); b.Most != 100 || len(b.Steps) != 0 || i != 0 || e != api.OK {
			t.Fatalf("Parse of no text: %v, %d, error %d", b, i, e)
		}
	}
	for _, s := range []string{"", " ", "\t\n\r ", "#", "# only", "# step\n", "# most 5\n\n", "#most\n#most 5"} {
		yields(t, s, steps())
		for _, n := range []int{0, 1, 5, 99, 100, 101, 9999} {
			yields(t, "most "+strconv.Itoa(n)+s, runbook.Book{Most: n})
			yields(t, s+"\nmost#\n"+strconv.Itoa(n), runbook.Book{Most: n})
		}
	}
}

func TestMost(t *testing.T) {
	step := runbook.Step{Name: "a", Time: 1, Else: "b"}
	text := "step a within 1 else b end\n"
	yields(t, text, steps(step))
	for _, n := range []int{0, 1, 99, 100, 101, 1000, 1001, 9999} {
		most := "most " + strconv.Itoa(n) + "\n"
		step.At = len(most)
		yields(t, most+text, runbook.Book{Most: n, Steps: []runbook.Step{step}})
		fails(t, most+most, len(most), api.ErrForm)
		fails(t, most+strconv.Itoa(n), len(most), api.ErrForm)
		fails(t, most+most+text, len(most), api.ErrForm)
		fails(t, text+most, len(text), api.ErrForm)
		fails(t, text+most+text, len(text), api.ErrForm)
	}
	fails(t, "most", 4, api.ErrForm)
	fails(t, "most ", 5, api.ErrForm)
	fails(t, "most # 5", 8, api.ErrForm)
	fails(t, "most x", 5, api.ErrForm)
	fails(t, "most most", 5, api.ErrForm)
	fails(t, "most step", 5, api.ErrForm)
	fails(t, `most "5"`, 5, api.ErrForm)
	fails(t, "most "+text, 5, api.ErrForm)
	fails(t, "5", 0, api.ErrForm)
	fails(t, "5 "+text, 0, api.ErrForm)
	fails(t, `"most" 5`, 0, api.ErrForm)
}

// builder writes a runbook: its text, and what the book must be. Between tokens it writes what gap returns.
type builder struct {
	gap  func() string
	text string
	book runbook.Book
}

// add adds tokens, and returns where the first one begins.
func (b *builder) add(tokens ...string) int {
	at := 0
	for i, token := range tokens {
		b.text += b.gap()
		if i == 0 {
			at = len(b.text)
		}
		b.text += token
	}
	return at
}

func quoted(s []byte) string {
	return `"` + strings.ReplaceAll(string(s), `"`, `\"`) + `"`
}

// step adds a step, whatever its At and those of its arms.
func (b *builder) step(s runbook.Step) {
	s.At = b.add("step", s.Name)
	s.Arms = slices.Clone(s.Arms)
	if s.Tag != api.Plain {
		b.add([]string{"", "once", "idem"}[s.Tag])
	}
	if s.Sends {
		b.add("send", quoted(s.Send))
	}
	for i := range s.Arms {
		a := &s.Arms[i]
		a.At = b.add("on", quoted(a.Pattern))
		if a.As != "" {
			b.add("as", a.As)
		}
		b.add("go", a.Go)
	}
	b.add("within", strconv.Itoa(s.Time))
	if s.Try != 0 {
		b.add("tries", strconv.Itoa(s.Try))
	}
	b.add("else", s.Else, "end")
	b.book.Steps = append(b.book.Steps, s)
}

func (b *builder) most(n int) {
	b.add("most", strconv.Itoa(n))
	b.book.Most = n
}

func newBuilder(gap func() string) *builder {
	return &builder{gap: gap, book: steps()}
}

func space() string { return " " }

// gaps returns what may stand between any tokens.
func gaps(n *numbers) func() string {
	return func() string {
		return n.one(" ", " ", "\n", "\t", "\r\n", "   ", "#\n", " # end\n", "# \"x\n\t", "\n\n# most 5 step a\n# \\?\n")
	}
}

// all returns every step with the parts that may be missing, with and without each of them.
func all() []runbook.Step {
	arms := []runbook.Arm{
		{Pattern: []byte("x"), Go: "p"}, {Pattern: []byte(`a "b" \\d`), As: "v", Go: "q"}, {As: "w", Go: "done"}, {Pattern: []byte("y"), Go: "fail"},
		{Pattern: []byte(`"`), Go: "r"}, {Pattern: []byte("|"), As: "x", Go: "s"}, {Pattern: []byte(`\\`), As: "y", Go: "t"}, {Pattern: []byte("\xff"), Go: "u"},
	}
	var l []runbook.Step
	for _, tag := range []int{api.Plain, api.Once, api.Idem} {
		for _, send := range [][]byte{nil, {}, []byte("hi $v"), []byte(`say "hi"`), []byte("send")} {
			for count := range len(arms) + 1 {
				for _, try := range []int{0, 1, 5, 9999} {
					s := runbook.Step{Name: "a" + strconv.Itoa(len(l)), Tag: tag, Sends: send != nil, Send: send, Time: len(l), Try: try, Else: "e_" + strconv.Itoa(len(l))}
					for i := range count {
						s.Arms = append(s.Arms, arms[(i+len(l))%len(arms)])
					}
					l = append(l, s)
				}
			}
		}
	}
	return l
}

// P12.1: each part that may be missing, with it and without it, in all combinations.
func TestPartsThatMayBeMissing(t *testing.T) {
	n := numbers(1)
	r := reader{}
	for _, gap := range []func() string{space, gaps(&n)} {
		last := runbook.Step{Name: "z", Time: 1, Else: "y"}
		for _, s := range all() {
			b := newBuilder(gap)
			b.step(s)
			yields(t, b.text, b.book)
			b.text += gap()
			yields(t, b.text, b.book)
			// What was in a step does not stay for the one behind it.
			b.step(runbook.Step{Name: "b", Time: 0, Else: "c"})
			yields(t, b.text, b.book)
			b.step(last)
			last = s
			yields(t, b.text, b.book)
			if e := r.agrees(t, b.text); e != api.OK {
				t.Fatalf("Parse(%s): error %d", shown(b.text), e)
			}
			b = newBuilder(gap)
			b.most(len(s.Arms))
			b.step(s)
			yields(t, b.text, b.book)
		}
	}
}

// A "tries" of 0 is as none.
func TestTimeAndTry(t *testing.T) {
	for _, time := range []int{0, 1, 100, 101, 9999} {
		for _, try := range []int{0, 1, 5, 6, 9999} {
			s := fmt.Sprintf("step a within %d tries %d else b end", time, try)
			yields(t, s, steps(runbook.Step{Name: "a", Time: time, Try: try, Else: "b"}))
		}
		s := fmt.Sprintf("step a within %d else b end", time)
		yields(t, s, steps(runbook.Step{Name: "a", Time: time, Else: "b"}))
	}
	fails(t, "step a within 10000 else b end", 14, api.ErrForm)
	fails(t, "step a within 05 else b end", 14, api.ErrForm)
	fails(t, "step a within 1 tries 10000 else b end", 22, api.ErrForm)
}

func TestBytesOfTexts(t *testing.T) {
	for s, want := range map[string]string{
		``: ``, ` `: ` `, `\"`: `"`, `\"\"`: `""`, `a\"b\"`: `a"b"`, `\\`: `\\`, `\\\"`: `\\"`, `\d`: `\d`, `#`: `#`, `$a$$`: `$a$$`, "\x7f\xff": "\x7f\xff",
		`step a within 1 else b end`: `step a within 1 else b end`, `on`: `on`,
	} {
		at := 15 + len(s)
		yields(t, `step a send "`+s+`" on "`+s+`" as v go w on "`+s+`" go x within 1 else b end`, steps(
			runbook.Step{Name: "a", Sends: true, Send: []byte(want), Arms: []runbook.Arm{{At: at, Pattern: []byte(want), As: "v", Go: "w"}, {At: at + len(s) + 16, Pattern: []byte(want), Go: "x"}}, Time: 1, Else: "b"}))
	}
}

func theWords() []string {
	return []string{"most", "step", "once", "idem", "send", "on", "as", "go", "within", "tries", "else", "end"}
}

// A Word may be a word of the form too, as where any Word may stand there stands no other token.
func TestWordsOfTheFormAsNames(t *testing.T) {
	n := numbers(2)
	for _, gap := range []func() string{space, gaps(&n)} {
		for _, w := range append(theWords(), "done", "fail", "doubt", "book", "arm", "word", "number", "text", "a", "stepp", "ste", "on_", "abcdefghijklmnopqrst") {
			for _, s := range []runbook.Step{
				{Name: w, Else: w},
				{Name: w, Tag: api.Once, Else: w},
				{Name: w, Sends: true, Else: w, Try: 3},
				{Name: w, Tag: api.Idem, Sends: true, Send: []byte(w), Arms: []runbook.Arm{{Pattern: []byte(w), As: w, Go: w}, {Go: w}, {As: w, Go: w}}, Try: 1, Else: w},
				{Name: w, Arms: []runbook.Arm{{Go: w}}, Else: w},
				{Name: w, Arms: []runbook.Arm{{As: w, Go: w}, {As: w, Go: w}}, Else: w},
			} {
				b := newBuilder(gap)
				b.step(s)
				b.step(s)
				yields(t, b.text, b.book)
			}
		}
	}
	// Each pair of them.
	for _, v := range theWords() {
		for _, w := range theWords() {
			b := newBuilder(space)
			b.step(runbook.Step{Name: v, Arms: []runbook.Arm{{As: v, Go: w}, {Go: v}}, Else: w})
			b.step(runbook.Step{Name: w, Tag: api.Once, Arms: []runbook.Arm{{As: w, Go: v}}, Else: v})
			yields(t, b.text, b.book)
		}
	}
}

// full returns the tokens of runbooks that have every part.
func full() [][]string {
	return [][]string{
		strings.Fields(`most 5 step a once send "hi" on "x" as v go b on "y" go c on "" as w go d within 7 tries 2 else e end step f idem send "" on "z" go g within 1 else h end step i within 0 tries 0 else j end`),
		strings.Fields(`step a within 1 else b end step c on "x" go d within 2 tries 3 else e end`),
	}
}

// Neither the Text nor a Word with other bytes is a word of the form.
func TestTextsAreNoWordsOfTheForm(t *testing.T) {
	r := reader{}
	for _, tokens := range full() {
		for i, token := range tokens {
			if !slices.Contains(theWords(), token) {
				continue
			}
			ahead := strings.Join(append(slices.Clone(tokens[:i]), ""), " ")
			for _, other := range []string{`"` + token + `"`, `"\"` + token + `\""`, token + "s", token + "_", token[1:], token[:len(token)-1], "zz", "0", `""`} {
				changed := slices.Clone(tokens)
				changed[i] = other
				s := strings.Join(changed, " ")
				if e := r.agrees(t, s); e != api.ErrForm {
					t.Fatalf("Parse(%s): error %d", shown(s), e)
				}
				fails(t, s, len(ahead), api.ErrForm)
			}
		}
	}
}

// P12.1: where the tokens end too early, the length of s.
func TestTooEarlyEnds(t *testing.T) {
	r := reader{}
	for _, tokens := range full() {
		whole := 0
		for i := range len(tokens) + 1 {
			s := strings.Join(tokens[:i], " ")
			isWhole := i == 0 || tokens[0] == "most" && i == 2 || tokens[i-1] == "end"
			for _, behind := range []string{"", " ", "\n\t\r ", "#", " # end", "\n# 5\n #\"x\"\n"} {
				if e := r.agrees(t, s+behind); isWhole != (e == api.OK) {
					t.Fatalf("Parse(%s): error %d", shown(s+behind), e)
				}
				if !isWhole {
					fails(t, s+behind, len(s+behind), api.ErrForm)
				}
			}
			if isWhole {
				whole++
			}
		}
		if whole < 3 {
			t.Fatalf("only %d runbooks", whole)
		}
	}
	for s, at := range map[string]int{
		"step": 4, "step ": 5, "step a": 6, "step a once": 11, "step a idem": 11, "step a send": 11, `step a send ""`: 14, "step a on": 9, `step a on ""`: 12, `step a on "" as`: 15, `step a on "" as v`: 17,
		`step a on "" go`: 15, `step a on "" go b`: 17, "step a within": 13, "step a within 1": 15, "step a within 1 tries": 21, "step a within 1 tries 2": 23, "step a within 1 else": 20, "step a within 1 else b": 22,
		"step a # within 1 else b end": 28, "step step": 9, "step a within 1 else end": 24, "step a within 1 else b # end": 28, "most 5 step": 11,
	} {
		fails(t, s, at, api.ErrForm)
	}
}

// P12.1: at each place of the form, each token that can't stand there, whatever comes behind it.
func TestWrongTokens(t *testing.T) {
	for s, at := range map[string]int{
		"a": 0, "end": 0, "once": 0, "within 1": 0, "0": 0, `""`: 0, " # no\n a": 7, "go a": 0, "else": 0,
		"step 5": 5, `step "a"`: 5, "step a b": 7, "step a step": 7, "step a end": 7, "step a most 5": 7, "step a 5": 7, `step a "x"`: 7, "step a go b": 7, "step a as b": 7, "step a tries 1": 7, "step a else b": 7,
		"step a once b": 12, "step a once idem": 12, "step a idem once": 12, "step a once once": 12, "step a idem idem": 12, "step a once 5": 12, `step a once "x"`: 12,
		"step a send b": 12, "step a send 5": 12, "step a send send": 12, `step a send "x" "y"`: 16, `step a send "x" send "y"`: 16, `step a send "x" once`: 16, `step a send "x" idem`: 16, `step a send "x" b`: 16,
		"step a on b": 10, "step a on 5": 10, "step a on on": 10, "step a on go b": 10, `step a on "x" b`: 14, `step a on "x" "y"`: 14, `step a on "x" within 1`: 14, `step a on "x" on "y"`: 14, `step a on "x" 5`: 14,
		`step a on "x" as "v"`: 17, `step a on "x" as 5`: 17, `step a on "x" as v as w`: 19, `step a on "x" as v w`: 19, `step a on "x" as v on`: 19, `step a on "x" as go b`: 20,
		`step a on "x" go "b"`: 17, `step a on "x" go 5`: 17, `step a on "x" go b as v`: 19, `step a on "x" go b go c`: 19, `step a on "x" go b once`: 19, `step a on "x" go b send "y"`: 19, `step a on "x" go b else c`: 19, `step a on "x" go b end`: 19, `step a on "x" go within 1`: 24,
		"step a within x": 14, `step a within "1"`: 14, "step a within else b": 14, "step a within within 1": 14, "step a within 1 2": 16, "step a within 1 end": 16, "step a within 1 within 1": 16, `step a within 1 on "x" go b`: 16, `step a within 1 send "x"`: 16, "step a within 1 once": 16, "step a within 1 b": 16,
		"step a within 1 tries x": 22, `step a within 1 tries "1"`: 22, "step a within 1 tries else b end": 22, "step a within 1 tries 1 tries 2": 24, "step a within 1 tries 1 end": 24, "step a within 1 tries 1 2": 24, "step a within 1 tries 1 within 1": 24,
		"step a within 1 else 5": 21, `step a within 1 else "b"`: 21, "step a within 1 else b else c end": 23, "step a within 1 else b c": 23, "step a within 1 else b tries 1": 23, "step a within 1 else b step c": 23, "step a within 1 else end step": 25,
		"step a within 1 else b end end": 27, "step a within 1 else b end most 5": 27, "step a within 1 else b end a": 27, "step a within 1 else b end 5": 27, `step a within 1 else b end "x"`: 27, "step a within 1 else b end within 1 else b end": 27, "step a within 1 else b end else b end": 27,
	} {
		for _, behind := range []string{"", " ", " # end", " 5", " step a within 1 else b end", ` "x" end`} {
			fails(t, s+behind, at, api.ErrForm)
		}
	}
}

// Each token is taken out, taken twice, changed for each token, or put behind each token.
func TestChangedRunbooksAgainstWords(t *testing.T) {
	n := numbers(3)
	r := reader{}
	seen := map[api.Errno]int{}
	others := append(theWords(), "a", "5", `"x"`, "?", "01", "\"\x01\"")
	for _, tokens := range full() {
		for _, gap := range []func() string{space, gaps(&n)} {
			check := func(l ...[]string) {
				s := ""
				for _, token := range slices.Concat(l...) {
					s += gap() + token
				}
				seen[r.agrees(t, s)]++
			}
			check(tokens)
			for i := range tokens {
				check(tokens[:i], tokens[i+1:])
				check(tokens[:i], tokens[i:i+1], tokens[i:])
				for j := i; j <= len(tokens); j++ {
					check(tokens[:i], tokens[j:])
					check(tokens[:j], tokens[i:])
					check(tokens[i:j])
				}
				for _, other := range others {
					check(tokens[:i], []string{other}, tokens[i:])
					check(tokens[:i], []string{other}, tokens[i+1:])
				}
			}
		}
	}
	if seen[api.OK] < 100 || seen[api.ErrForm] < 5000 || len(seen) != 2 {
		t.Fatalf("too few of a kind: %v", seen)
	}
}

// everyText calls check with s and up to size more of these tokens behind it.
func everyText(s string, tokens []string, size int, check func(string)) {
	check(s)
	if size == 0 {
		return
	}
	for _, token := range tokens {
		everyText(s+" "+token, tokens, size-1, check)
	}
}

func TestShortRunbooksAgainstWords(t *testing.T) {
	r := reader{}
	seen := map[api.Errno]int{}
	check := func(s string) { seen[r.agrees(t, s)]++ }
	tokens := append(theWords(), "a", "5", `"x"`)
	everyText("", tokens, 4, check)
	for _, whole := range full() {
		for i := range len(whole) + 1 {
			everyText(strings.Join(whole[:i], " "), tokens, 2, check)
		}
	}
	for _, s := range []string{"step a within", "step a once within 1", `step a on "" as`, `step a on "" go`, "step a within 1 tries", "step a within 1 tries 2 else", "step a within 1 else"} {
		everyText(s, tokens, 3, check)
	}
	everyText("", []string{"step", "5", "within", "else", "end"}, 7, check)
	everyText("step a", []string{"on", `"x"`, "go"}, 9, check)
	if seen[api.OK] < 50 || seen[api.ErrForm] < 50000 || len(seen) != 2 {
		t.Fatalf("too few of a kind: %v", seen)
	}
}

// P12.1: the error and the index of lex.Cut come first, wherever they are.
func TestErrorsOfTokens(t *testing.T) {
	bad := []struct {
		s  string
		at int
	}{{"?", 0}, {"A", 0}, {"01", 0}, {"10000", 0}, {"abcdefghijklmnopqrstu", 0}, {"\"\n", 1}, {`"ab`, 3}, {"\"a\\\x1f\"", 3}, {"_", 0}, {"\xff", 0}}
	whole := "step a within 1 else b end"
	for _, b := range bad {
		for _, ahead := range []string{"", " ", "# ?\n", "step ", "most ", "most 5 ", whole + " ", whole + "\n" + whole + "\n", "step a once ", `step a on "x" go `,
			// An earlier token could not be continued.
			"end ", "5 5 ", `"" `, "step 5 ", "most x ", whole + " end ", whole + " most 5 "} {
			fails(t, ahead+b.s, len(ahead)+b.at, api.ErrForm)
			if b.s != `"ab` {
				fails(t, ahead+b.s+" step", len(ahead)+b.at, api.ErrForm)
				fails(t, ahead+b.s+"\n"+whole, len(ahead)+b.at, api.ErrForm)
			}
		}
	}
	fails(t, "step ?", 5, api.ErrForm)
	fails(t, "5 ?", 2, api.ErrForm)
	fails(t, `5 "`, 3, api.ErrForm)
}

// repeated returns a runbook of exactly size bytes, with many steps.
func repeated(size int) string {
	s := strings.Repeat("step a within 1 else b end\n", size/27)
	return s + strings.Repeat("#", size-len(s))
}

func TestLength(t *testing.T) {
	for _, size := range []int{1998, 1999, 2000} {
		s := repeated(size)
		b, i, e := runbook.Parse([]byte(s))
		if len(s) != size || e != api.OK || i != 0 || len(b.Steps) != 74 || b.Most != 100 {
			t.Fatalf("Parse of %d bytes: %v, %d, error %d", len(s), b, i, e)
		}
		for k, step := range b.Steps {
			if !sameStep(step, runbook.Step{At: 27 * k, Name: "a", Time: 1, Else: "b"}) {
				t.Fatalf("Parse of %d bytes: %v", size, b)
			}
		}
		yields(t, strings.Repeat(" ", size), steps())
		yields(t, strings.Repeat(" ", size-6)+"most 7", runbook.Book{Most: 7})
		fails(t, strings.Repeat(" ", size-4)+"step", size, api.ErrForm)
		fails(t, strings.Repeat(" ", size-4)+"a  \n", size-4, api.ErrForm)
		fails(t, "step"+strings.Repeat(" ", size-4), size, api.ErrForm)
		fails(t, strings.Repeat(" ", size-1)+"?", size-1, api.ErrForm)
		fails(t, strings.Repeat("5 ", size/2), 0, api.ErrForm)
		fails(t, strings.Repeat("step ", size/5), 10, api.ErrForm)
		// All of one text, and many arms.
		line := strings.Repeat("x", size-42)
		yields(t, `step a send "`+line+`" within 1 tries 2 else b end`, steps(runbook.Step{Name: "a", Sends: true, Send: []byte(line), Time: 1, Try: 2, Else: "b"}))
	}
	for _, size := range []int{2001, 2002, 4000, 1 << 20} {
		for _, s := range []string{repeated(size), strings.Repeat(" ", size), strings.Repeat("#", size), strings.Repeat("?", size), strings.Repeat("5 ", size)[:size], strings.Repeat("step ", size)[:size], `step a send "` + strings.Repeat("x", size-13)} {
			fails(t, s, 0, api.ErrFull)
		}
	}
}

func TestManyArms(t *testing.T) {
	for _, count := range []int{1, 2, 6, 7, 100, 150} {
		b := newBuilder(space)
		s := runbook.Step{Name: "a", Time: 3, Else: "b"}
		for i := range count {
			s.Arms = append(s.Arms, runbook.Arm{Pattern: []byte{'a' + byte(i%26)}, Go: "c"})
		}
		b.step(s)
		yields(t, b.text, b.book)
		b.step(runbook.Step{Name: "d", Else: "e"})
		yields(t, b.text, b.book)
	}
}

func TestEveryByteBehindARunbook(t *testing.T) {
	r := reader{}
	for i := range 256 {
		for _, s := range []string{"", "most 5", "step", "step a", "step a within 1", "step a within 1 else b end", "step a within 1 else b end ", `step a on ""`} {
			r.agrees(t, s+string([]byte{byte(i)}))
			r.agrees(t, string([]byte{byte(i)})+s)
		}
	}
}

func (n *numbers) word() string {
	if n.below(4) == 0 {
		words := theWords()
		return words[n.below(len(words))]
	}
	return n.one("a", "b1", "log_in", "done", "fail", "doubt", "x_9", "abcdefghijklmnopqrst")
}

func (n *numbers) bytes() []byte {
	s := ""
	for range n.below(4) {
		s += n.one("a", " ", "#", `"`, `\\`, `\d`, "$v", "on", "\xff")
	}
	return []byte(s)
}

func (n *numbers) step() runbook.Step {
	s := runbook.Step{Name: n.word(), Tag: n.below(3), Time: n.below(120), Else: n.word()}
	if n.below(2) == 0 {
		s.Sends, s.Send = true, n.bytes()
	}
	for range n.below(4) {
		a := runbook.Arm{Pattern: n.bytes(), Go: n.word()}
		if n.below(2) == 0 {
			a.As = n.word()
		}
		s.Arms = append(s.Arms, a)
	}
	if n.below(2) == 0 {
		s.Try = n.below(10000)
	}
	return s
}

func (n *numbers) build(size int, hasMost bool) *builder {
	b := newBuilder(gaps(n))
	if hasMost {
		b.most(n.below(10000))
	}
	for range size {
		b.step(n.step())
	}
	b.text += b.gap()
	return b
}

func TestOtherRunbooksAgainstWords(t *testing.T) {
	n := numbers(4)
	r := reader{}
	seen := map[api.Errno]int{}
	for range 3000 {
		b := n.build(n.below(6), n.below(2) == 0)
		if len(b.text) <= 2000 {
			yields(t, b.text, b.book)
		}
		seen[r.agrees(t, b.text)]++
		// A byte is taken out, doubled or changed, or some bytes are.
		s := b.text
		for range 1 + n.below(3) {
			i := n.below(len(s))
			j := min(len(s), i+n.below(12))
			s = s[:i] + n.one("", " ", "a", "5", `"`, "#", "\n", "?", s[i:i+1]+s[i:i+1], s[j:]) + s[j:]
			if len(s) == 0 {
				break
			}
		}
		seen[r.agrees(t, s)]++
	}
	if seen[api.OK] < 2000 || seen[api.ErrForm] < 1000 {
		t.Fatalf("too few of a kind: %v", seen)
	}
}

// written returns the text of a token of the form.
func (n *numbers) written(token string) string {
	switch token {
	case "Word":
		return n.word()
	case "Number":
		return strconv.Itoa(n.below(10000))
	case "Text":
		return quoted(n.bytes())
	}
	return strings.Trim(token, `"`)
}

func TestOtherTokensAgainstWords(t *testing.T) {
	n := numbers(5)
	r := reader{}
	seen := map[api.Errno]int{}
	for range 8000 {
		// What may come next, mostly, so that it becomes long.
		s, paths := "", []path{{nil, bookForm}}
		for range n.below(60) {
			token := n.one("a", "5", `"x"`, n.word())
			if next := r.turns(paths[0].rest).next; len(next) > 0 && n.below(40) > 0 {
				token = n.written(next[n.below(len(next))].token)
			}
			l, _, e := lex.Cut([]byte(token))
			if e != api.OK || len(l) != 1 {
				t.Fatalf("%q is %d tokens, error %d", token, len(l), e)
			}
			s += n.one(" ", "\n", "\t", "#\n") + token
			if paths = r.on(paths, l[0]); len(paths) == 0 {
				break
			}
		}
		seen[r.agrees(t, s)]++
	}
	if seen[api.OK] < 300 || seen[api.ErrForm] < 3000 {
		t.Fatalf("too few of a kind: %v", seen)
	}
}

// moved returns the steps with their places moved.
func moved(l []runbook.Step, by int) []runbook.Step {
	l = slices.Clone(l)
	for i := range l {
		l[i].At += by
		l[i].Arms = slices.Clone(l[i].Arms)
		for k := range l[i].Arms {
			l[i].Arms[k].At += by
		}
	}
	return l
}

// P12.2: each step by itself is a runbook, with that step.
func TestEachStepAlone(t *testing.T) {
	n := numbers(6)
	count := 0
	for range 3000 {
		text := n.build(1+n.below(6), n.below(2) == 0).text
		b, _, e := runbook.Parse([]byte(text))
		if e != api.OK {
			continue
		}
		for i, step := range b.Steps {
			end := len(text)
			if i+1 < len(b.Steps) {
				end = b.Steps[i+1].At
			}
			alone := moved(b.Steps[i:i+1], -step.At)
			yields(t, text[step.At:end], steps(alone...))
			// Without what stands behind its "end".
			l, _, _ := lex.Cut([]byte(text[step.At:end]))
			last := l[len(l)-1].At + len("end")
			yields(t, text[step.At:step.At+last], steps(alone...))
			fails(t, text[step.At:step.At+l[len(l)-1].At], l[len(l)-1].At, api.ErrForm)
			count++
		}
	}
	if count < 5000 {
		t.Fatalf("only %d steps", count)
	}
}

// P12.2: the text of a runbook followed by that of another one without "most" is a runbook with the steps of both; behind one with "most" that word can't stand.
func TestOneRunbookBehindAnother(t *testing.T) {
	n := numbers(7)
	count := 0
	for range 3000 {
		a := n.build(n.below(4), n.below(2) == 0)
		b := n.build(n.below(4), false)
		if a.text += "\n"; len(a.text)+len(b.text) > 2000 {
			continue
		}
		yields(t, a.text+b.text, runbook.Book{Most: a.book.Most, Steps: slices.Concat(a.book.Steps, moved(b.book.Steps, len(a.text)))})
		if len(a.book.Steps) > 0 {
			fails(t, a.text+"most 5 "+b.text, len(a.text), api.ErrForm)
		}
		count++
	}
	if count < 2000 {
		t.Fatalf("only %d pairs", count)
	}
}

// What begins the second text must not be read as part of the last token, or of a comment, of the first one.
func TestNothingBetweenRunbooks(t *testing.T) {
	whole := "step a within 1 else b end"
	step := runbook.Step{Name: "a", Time: 1, Else: "b"}
	fails(t, whole+whole, 23, api.ErrForm)
	yields(t, whole+" # end"+whole, steps(step))
	yields(t, whole+"#\n"+whole, steps(step, runbook.Step{At: 28, Name: "a", Time: 1, Else: "b"}))
	step.At = 6
	yields(t, "most 7"+whole, runbook.Book{Most: 7, Steps: []runbook.Step{step}})
}

var some = []string{
	"", "most 5", `step a on "x" go done within 5 else fail end`,
	"most 7\nstep a once send \"hi\" on \"x\" as v go b on \"y\" go done within 5 else doubt end step b idem send \"\" within 9 tries 2 else a end step c within 1 else fail end",
	`step a send "a\"b" on "c\"d" as v go w on "e" go f on "g" go h within 1 tries 2 else b end step c send "i" on "j" go k on "l" go m within 1 else b end`,
	"step a within 1 else b end # end", "step", "step ?", "5", `step a on "x`, strings.Repeat("step a within 1 else b end\n", 74), strings.Repeat("step a within 1 else b end\n", 75),
}

func TestArgumentIsLeftAlone(t *testing.T) {
	for _, s := range some {
		// With more capacity than length, so that an append to the argument would be seen.
		whole := append([]byte(s), "\x01\x02\x03\x04"...)
		before := bytes.Clone(whole)
		b, i, e := runbook.Parse(whole[:len(s)])
		if !bytes.Equal(whole, before) {
			t.Fatalf("Parse(%s) changed its argument to %s", shown(string(before)), shown(string(whole)))
		}
		// If the book or a later call used the argument's memory, they would change with it.
		clear(whole)
		c, j, f := runbook.Parse([]byte(s))
		if !same(b, c) || i != j || e != f {
			t.Fatalf("Parse(%s): %v, %d, error %d; then %v, %d, error %d", shown(s), b, i, e, c, j, f)
		}
	}
}

// spoil changes bytes, and what an append to them would reach.
func spoil(b []byte) {
	_ = append(b, "\x01\x02\x03\x04\x05\x06\x07\x08"...)
	clear(b)
}

func TestBooksAreNewMemory(t *testing.T) {
	for _, s := range some {
		given := []byte(s)
		b, _, _ := runbook.Parse(given)
		want, _, _ := runbook.Parse([]byte(s))
		// Whoever appends to a list of the book, or writes to it, must change no other one, in the same book or in another one, nor what Parse was given.
		for k := range b.Steps {
			step := &b.Steps[k]
			spoil(step.Send)
			step.Send = want.Steps[k].Send
			for i := range step.Arms {
				spoil(step.Arms[i].Pattern)
				step.Arms[i].Pattern = want.Steps[k].Arms[i].Pattern
				if !same(b, want) {
					t.Fatalf("Parse(%s): the arm %d of the step %d shares memory", shown(s), i, k)
				}
			}
			_ = append(step.Arms, runbook.Arm{As: "z"}, runbook.Arm{As: "y"})
			clear(step.Arms)
			step.Arms = want.Steps[k].Arms
			if !same(b, want) {
				t.Fatalf("Parse(%s): the step %d shares memory", shown(s), k)
			}
		}
		_ = append(b.Steps, runbook.Step{Name: "z"})
		clear(b.Steps)
		if string(given) != s {
			t.Fatalf("Parse(%s): the book shares memory with the argument", shown(s))
		}
		if again, _, _ := runbook.Parse(given); !same(again, want) {
			t.Fatalf("Parse(%s): %v, and later %v", shown(s), want, again)
		}
	}
}

func TestEarlierCallsDoNotMatter(t *testing.T) {
	n := numbers(8)
	texts := slices.Clone(some)
	for range 40 {
		texts = append(texts, n.build(n.below(3), n.below(2) == 0).text)
	}
	for _, s := range texts {
		want, at, e := runbook.Parse([]byte(s))
		for _, other := range texts {
			runbook.Parse([]byte(other))
			if b, i, f := runbook.Parse([]byte(s)); !same(b, want) || i != at || f != e {
				t.Fatalf("Parse(%s): %v, %d, error %d; behind Parse(%s) %v, %d, error %d", shown(s), want, at, e, shown(other), b, i, f)
			}
		}
	}
}

// Calls that go on at the same time do not touch each other.
func TestCallsAtTheSameTime(t *testing.T) {
	results := make(chan string)
	for i := range 8 {
		go func() {
			told := ""
			for range 200 {
				b, at, e := runbook.Parse([]byte(fmt.Sprintf("most %d ", i) + strings.Repeat("step a within 1 else b end\n", i) + fmt.Sprintf(`step c on "x" go d%d within 2 else e end`, i)))
				told = fmt.Sprint(b.Most, len(b.Steps), at, e, b.Steps[i].Arms[0].Go)
			}
			results <- told
		}()
	}
	var got []string
	for range 8 {
		got = append(got, <-results)
	}
	slices.Sort(got)
	for i, told := range got {
		if want := fmt.Sprint(i, i+1, 0, api.OK, fmt.Sprintf("d%d", i)); told != want {
			t.Errorf("Parse: %q, not %q", told, want)
		}
	}
}
