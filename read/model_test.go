package read_test

import (
	"slices"
	"strings"
	"testing"

	"ponder/api"
	"ponder/lex"
	"ponder/read"
)

// grammar answers what each name of chapter 8's grammar may stand for. What stands in it n times or more, or may be missing, has a name of its own here.
func grammar() map[string][]string {
	return map[string][]string{
		"text":   {"", "prod text"},
		"prod":   {"sp { WORD conds --> acts }"},
		"conds":  {"cond", "cond conds"},
		"cond":   {"clause", "- clause", "- { conds }"},
		"clause": {"( VAR items )", "( state VAR items )"},
		"items":  {"item", "item items"},
		"item":   {"^ field value acc", "- ^ field value acc"},
		"value":  {"", "field"},
		"acc":    {"", "+"},
		"field":  {"test", "{ tests }"},
		"tests":  {"test", "test tests"},
		"test":   {"atom", "<> atom", "< atom", "<= atom", "> atom", ">= atom", "<=> atom", "<< consts >>"},
		"atom":   {"VAR", "const"},
		"consts": {"const", "const consts"},
		"const":  {"WORD", "NUM"},
		"acts":   {"act", "act acts"},
		"act":    {"( VAR aitems )"},
		"aitems": {"aitem", "aitem aitems"},
		"aitem":  {"^ atom term pref"},
		"term":   {"atom", "( + atom atom )", "( - atom atom )", "( * atom atom )"},
		"pref":   {"", "+", "-", "!", "~", "> other", "< other", "= other"},
		"other":  {"", "atom"},
	}
}

// front is a way to put the front of a part as tokens: the first token that is asked for, and the parts behind it.
type front struct {
	asked, behind string
}

// model has, for each name of the grammar, all ways to put its front, and whether it may be nothing.
type model struct {
	fronts map[string][]front
	empty  map[string]bool
}

func newModel() model {
	m := model{map[string][]front{}, map[string]bool{}}
	rules := grammar()
	for name := range rules {
		m.open(rules, name)
	}
	return m
}

// of answers the fronts of a name, or of a token.
func (m model) of(part string) []front {
	if l, named := m.fronts[part]; named {
		return l
	}
	return []front{{part, ""}}
}

// open finds the fronts of name, and those of all that it may begin with.
func (m model) open(rules map[string][]string, name string) {
	if rules[name] == nil {
		return
	}
	var l []front
	for _, way := range rules[name] {
		parts := strings.Fields(way)
		for len(parts) > 0 {
			m.open(rules, parts[0])
			for _, x := range m.of(parts[0]) {
				l = append(l, front{x.asked, chained(x.behind, strings.Join(parts[1:], " "))})
			}
			if !m.empty[parts[0]] {
				break
			}
			parts = parts[1:]
		}
		if len(parts) == 0 {
			m.empty[name] = true
		}
	}
	m.fronts[name] = l
}

// chained writes parts one behind the other.
func chained(a, b string) string {
	if a == "" || b == "" {
		return a + b
	}
	return a + " " + b
}

// step answers all that may come behind x, if all of now may come in its place.
func (m model) step(now []string, x lex.Token) []string {
	var l []string
	for _, rest := range now {
		for first, more := "", true; more && rest != ""; more = m.empty[first] {
			first, rest, _ = strings.Cut(rest, " ")
			for _, f := range m.of(first) {
				if fits(x, f.asked) {
					l = append(l, chained(f.behind, rest))
				}
			}
		}
	}
	slices.Sort(l)
	return slices.Compact(l)
}

// fits tells whether x may be the token that is asked for.
func fits(x lex.Token, asked string) bool {
	switch x.Kind {
	case lex.Word:
		return asked == "WORD" || asked == x.Text && (asked == "sp" || asked == "state")
	case lex.Num:
		return asked == "NUM"
	case lex.Var:
		return asked == "VAR"
	case lex.Sign:
		return asked == x.Text
	case lex.End:
		return asked == "END"
	}
	return false
}

// fault answers the index of the first token that can not be there if the whole text is to be of this name, by going all ways of the grammar at once; -1 if there is none.
func (m model) fault(text, name string) int {
	now := []string{name + " END"}
	for x := range lex.Tokens(text) {
		if now = m.step(now, x); len(now) == 0 {
			return x.At
		}
	}
	return -1
}

// expectFault holds what All and One make of text against the grammar. Where Shape does not accept a production that is all in front of the fault, that comes first.
func (m model) expectFault(t *testing.T, text string) {
	t.Helper()
	_, at, e := read.All(text)
	want := m.fault(text, "text")
	shapely := e == api.OK || e == api.ErrText
	switch {
	case e == api.OK && at == -1 && want == -1:
	case e == api.ErrText && at == want && want >= 0:
	case !shapely && strings.HasPrefix(text[at:], "sp") && (want == -1 || at < want):
	default:
		t.Fatalf("All of %q: %d, %d, and the first fault is at %d", text, at, e, want)
	}
	_, oneAt, oneErr := read.One(text)
	only := m.fault(text, "prod")
	switch {
	case !shapely && lex.All(text)[0].At == at:
		only = at
	case only >= 0:
		e = api.ErrText
	}
	if oneAt != only || oneErr != e {
		t.Fatalf("One of %q: %d, %d, and not %d, %d", text, oneAt, oneErr, only, e)
	}
}

// vocabulary has each sign, and tokens of each other kind.
func vocabulary() []string {
	return []string{
		"-->", "<=>", "<<", ">>", "<>", "<=", ">=", "(", ")", "{", "}", "^", "+", "-", "!", "~", "<", ">", "=", "*",
		"sp", "state", "a", "7", "-7", "<v>", "<sp>", "<state>", "@", "007",
	}
}

// joined writes tokens with one blank between.
func joined(l []lex.Token) string {
	var parts []string
	for _, x := range l {
		parts = append(parts, source(x))
	}
	return strings.Join(parts, " ")
}

// Each token behind each beginning of a text in which each part of the grammar occurs; and where one may stand there, each one behind that.
func TestEachTokenAnywhere(t *testing.T) {
	model := newModel()
	whole := lex.All(fullText + " " + simple("b"))
	for n := range whole {
		begin := joined(whole[:n])
		model.expectFault(t, begin)
		for _, one := range vocabulary() {
			text := begin + " " + one
			model.expectFault(t, text)
			if at := model.fault(text, "text"); at >= 0 && at < len(text) {
				continue
			}
			for _, two := range vocabulary() {
				model.expectFault(t, text+" "+two)
			}
		}
	}
}

// Texts that differ from a right one in some tokens.
func TestManyFaults(t *testing.T) {
	model, words := newModel(), vocabulary()
	wrong := 0
	for seed := range uint64(5000) {
		m := steps(seed)
		l := lex.All(m.text(1 + m(3)).text)
		parts := strings.Fields(joined(l[:len(l)-1]))
		for range m(4) {
			i := m(len(parts) + 1)
			switch m(3) {
			case 0:
				parts = slices.Insert(parts, i, one(m, words...))
			case 1:
				parts = slices.Delete(parts, min(i, len(parts)-1), min(i+1, len(parts)))
			case 2:
				parts[min(i, len(parts)-1)] = one(m, words...)
			}
			if len(parts) == 0 {
				parts = []string{"sp"}
			}
		}
		text := strings.Join(parts, one(m, " ", "\n", " # }\n"))
		model.expectFault(t, text)
		if model.fault(text, "text") >= 0 {
			wrong++
		}
	}
	if wrong < 2500 || wrong > 4500 {
		t.Errorf("%d have a fault", wrong)
	}
}

// Any bytes at all.
func TestAnyBytes(t *testing.T) {
	model := newModel()
	for seed := range uint64(5000) {
		m := steps(seed)
		text := []byte(m.text(1 + m(2)).text)
		for range 1 + m(3) {
			text[m(len(text))] = byte(m(256))
		}
		model.expectFault(t, string(text))
	}
	for a := range 256 {
		for b := range 256 {
			model.expectFault(t, string([]byte{byte(a), byte(b)}))
		}
	}
}
