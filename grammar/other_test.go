package grammar_test

import (
	"math/rand"
	"regexp"
	"slices"
	"strconv"
	"strings"

	"posthorn/api"
)

// Here is another road to what Print says: which commands may be, and their texts.

// loose, where it is set, lets them be said in other ways that mean the same.
var loose *rand.Rand

// either is one of some texts: the first one, or, where loose is set, any.
func either(l ...string) string {
	if loose == nil {
		return l[0]
	}
	return l[loose.Intn(len(l))]
}

const (
	atomByte = `[!#-$&'+-\[^-z|}~]`
	sysFlag  = `\\(?:Answered|Flagged|Deleted|Seen|Draft)`
)

var (
	aTag      = regexp.MustCompile(`^[!#-$&',-\[^-z|}~]{1,32}$`)
	anAtom    = regexp.MustCompile(`^` + atomByte + `+$`)
	aBox      = regexp.MustCompile(`^[!#-$&-)+-\[\]-~](?:[ !#-$&-)+-\[\]-~]*[!#-$&-)+-\[\]-~])?$`)
	aBare     = regexp.MustCompile(`^(?:` + atomByte + `|[%*])+$`)
	quotable  = regexp.MustCompile(`^[\x01-\x09\x0b\x0c\x0e-\x7f]{0,512}$`)
	aField    = regexp.MustCompile(`^[!-9;-@\[-~]{1,32}$`)
	aKeyword  = regexp.MustCompile(`^[!#-$&'+-@\[^-z|}~]{1,32}$`)
	aSysFlag  = regexp.MustCompile(`^` + sysFlag + `$`)
	backslash = strings.NewReplacer(`"`, `\"`, `\`, `\\`)
)

// form is a text in its shortest way.
func form(s string) string {
	var l []string
	if anAtom.MatchString(s) && len(s) <= 512 && !strings.EqualFold(s, "nil") {
		l = append(l, s)
	}
	if quotable.MatchString(s) {
		l = append(l, `"`+backslash.Replace(s)+`"`)
	}
	l = append(l, literal(s))
	if anAtom.MatchString(s) {
		l = append(l, s)
	}
	return either(l...)
}

func mayBox(s string) bool {
	return len(s) <= 64 && aBox.MatchString(s) && (s == "INBOX" || strings.ToLower(s) != "inbox")
}

func mayPattern(s string) bool { return len(s) <= 4096 || aBare.MatchString(s) }

func patternText(s string) string {
	if aBare.MatchString(s) && strings.ToLower(s) != "nil" {
		if len(s) > 4096 {
			return s
		}
		return either(s, form(s))
	}
	return form(s)
}

func maySet(l []api.Range) bool {
	return len(l) > 0 && len(l) <= 64 && !slices.ContainsFunc(l, func(r api.Range) bool { return r.From>>32 > 0 || r.To>>32 > 0 })
}

func setText(l []api.Range) string {
	var parts []string
	for _, r := range l {
		from, to := strconv.FormatUint(r.From, 10), strconv.FormatUint(r.To, 10)
		s := from + ":" + to
		if from == to {
			s = either(from, s)
		}
		parts = append(parts, s)
	}
	return regexp.MustCompile(`\b0\b`).ReplaceAllString(strings.Join(parts, ","), "*")
}

func mayFlags(l []string) bool {
	system := strings.Fields(`\Answered \Flagged \Deleted \Seen \Draft`)
	for i, f := range l {
		place := slices.Index(system, f)
		if place < 0 && !aKeyword.MatchString(f) {
			return false
		}
		if i == 0 {
			continue
		}
		ahead := slices.Index(system, l[i-1])
		switch {
		case place >= 0 && (ahead < 0 || ahead >= place):
			return false
		case place < 0 && ahead < 0 && l[i-1] >= f:
			return false
		}
	}
	return len(l) <= 16
}

func flagsText(l []string) string {
	l = slices.Clone(l)
	if loose != nil && len(l) > 0 {
		for range loose.Intn(4) {
			f := l[loose.Intn(len(l))]
			l = append(l, either(f, strings.ToUpper(f), strings.ToLower(f)))
		}
		loose.Shuffle(len(l), func(i, j int) { l[i], l[j] = l[j], l[i] })
	}
	return "(" + strings.Join(l, " ") + ")"
}

// itemText is the text of an item; empty of one that may not be.
func itemText(x api.Item, fetch bool) string {
	words := strings.Fields("MESSAGES UIDNEXT UIDVALIDITY UNSEEN HIGHESTMODSEQ FLAGS UID RFC822.SIZE MODSEQ")
	sections := []string{"[]", "[HEADER]", "[TEXT]"}
	if x.Kind < 1 || x.Kind > 12 || fetch != (x.Kind > 5) {
		return ""
	}
	if x.Kind <= 9 {
		if x.Peek || x.Part || x.From > 0 || x.Count > 0 {
			return ""
		}
		return words[x.Kind-1]
	}
	s := "BODY"
	if x.Peek {
		s += ".PEEK"
	}
	s += sections[x.Kind-10]
	switch {
	case !x.Part && x.From == 0 && x.Count == 0:
		return s
	case !x.Part || x.Count == 0 || x.Count>>32 > 0 || x.From>>32 > 0:
		return ""
	}
	return s + "<" + strconv.FormatUint(x.From, 10) + "." + strconv.FormatUint(x.Count, 10) + ">"
}

// itemsText is the text of items; empty of ones that may not be.
func itemsText(l []api.Item, fetch bool) string {
	var parts []string
	for _, x := range l {
		s := itemText(x, fetch)
		if s == "" {
			return ""
		}
		parts = append(parts, s)
	}
	s := strings.Join(parts, " ")
	switch {
	case len(l) == 0 || len(l) > 8:
		return ""
	case fetch && len(l) == 1:
		return either(s, "("+s+")")
	}
	return "(" + s + ")"
}

// leafText is the text of a key without kids, and what it would be of the same kind without all fields that it names.
func leafText(k api.Key) (string, api.Key) {
	rest := k
	rest.Kind = 0
	number := func(name string) string {
		rest.N = 0
		if k.N>>63 > 0 {
			return ""
		}
		return name + " " + strconv.FormatUint(k.N, 10)
	}
	text := func(name string) string {
		rest.Text = ""
		if len(k.Text) > 4096 {
			return ""
		}
		return name + " " + form(k.Text)
	}
	set := func(name string) string {
		rest.Set = nil
		if !maySet(k.Set) {
			return ""
		}
		return name + setText(k.Set)
	}
	switch k.Kind {
	case api.KeyAll:
		return "ALL", rest
	case api.KeySet:
		return set(""), rest
	case api.KeyUid:
		return set("UID "), rest
	case api.KeyFlag:
		rest.Field, rest.N = "", 0
		un := []string{"UN", ""}[min(k.N, 1)]
		switch {
		case k.N > 1:
		case aSysFlag.MatchString(k.Field):
			return un + strings.ToUpper(k.Field[1:]), rest
		case aKeyword.MatchString(k.Field):
			return un + "KEYWORD " + either(k.Field, strings.ToUpper(k.Field)), rest
		}
	case api.KeyLarger:
		return number("LARGER"), rest
	case api.KeySmaller:
		return number("SMALLER"), rest
	case api.KeyModseq:
		return number("MODSEQ"), rest
	case api.KeyText:
		return text("TEXT"), rest
	case api.KeyBody:
		return text("BODY"), rest
	case api.KeyHeader:
		rest.Field = ""
		if aField.MatchString(k.Field) {
			ways := []string{"HEADER " + form(k.Field), "HEADER " + form(either(k.Field, strings.ToUpper(k.Field)))}
			if slices.Contains(strings.Fields("subject from to"), k.Field) {
				ways = append(ways, strings.ToUpper(k.Field))
			}
			return text(either(ways...)), rest
		}
	}
	return "", rest
}

// keyText is the text of the key with which l begins, and what is left behind it; the empty text of one that may not be.
func keyText(l []api.Key, nest int) (string, []api.Key) {
	if len(l) == 0 {
		return "", nil
	}
	k, kids := l[0], 0
	switch k.Kind {
	case api.KeyAnd:
		kids = k.Kids
	case api.KeyNot:
		kids = 1
	case api.KeyOr:
		kids = 2
	default:
		s, rest := leafText(k)
		if rest.Kids != 0 || rest.Field+rest.Text != "" || rest.N != 0 || len(rest.Set) > 0 {
			return "", nil
		}
		return s, l[1:]
	}
	if k.Kind != api.KeyAnd && k.Kids != 0 || k.Field+k.Text != "" || k.N != 0 || len(k.Set) > 0 || nest == 8 || kids < 1 || kids > 32 {
		return "", nil
	}
	l = l[1:]
	var parts []string
	for range kids {
		var s string
		if s, l = keyText(l, nest+1); s == "" {
			return "", nil
		}
		parts = append(parts, s)
	}
	s := strings.Join(parts, " ")
	return map[int]string{api.KeyAnd: "(" + s + ")", api.KeyNot: "NOT " + s, api.KeyOr: "OR " + s}[k.Kind], l
}

// behind is what stands behind a command's word, and the command without all fields that its kind names; ok says whether those may be so.
func behind(c api.Command) (s string, rest api.Command, ok bool) {
	rest = c
	since := func(ahead, behind string) string {
		rest.HasSince = false
		if !c.HasSince {
			return ""
		}
		rest.Since = 0
		ok = ok && c.Since>>63 == 0
		return ahead + strconv.FormatUint(c.Since, 10) + behind
	}
	box := func() string {
		rest.Box = ""
		ok = ok && mayBox(c.Box)
		if c.Box == "INBOX" {
			return " " + form(either(c.Box, "inbox", "InBox"))
		}
		return " " + form(c.Box)
	}
	set := func() string {
		rest.Uid, rest.Set = false, nil
		ok = ok && maySet(c.Set)
		return " " + setText(c.Set)
	}
	ok = true
	switch c.Kind {
	case api.CmdCapability, api.CmdNoop, api.CmdLogout, api.CmdClose, api.CmdExpunge:
	case api.CmdEnable:
		s = " CONDSTORE"
	case api.CmdLogin:
		rest.User, rest.Pass = "", ""
		ok = len(c.User) <= 4096 && len(c.Pass) <= 4096
		s = " " + form(c.User) + " " + form(c.Pass)
	case api.CmdSelect, api.CmdExamine:
		rest.Cond = false
		if s = box(); c.Cond {
			s += " (CONDSTORE)"
		}
	case api.CmdCreate, api.CmdDelete:
		s = box()
	case api.CmdList:
		rest.Pattern = ""
		ok = mayPattern(c.Pattern)
		s = ` "" ` + patternText(c.Pattern)
	case api.CmdStatus:
		rest.Items = nil
		l := itemsText(c.Items, false)
		s = box() + " " + l
		ok = ok && l != ""
	case api.CmdAppend:
		rest.Flags, rest.Data = nil, ""
		if s = box(); len(c.Flags) > 0 {
			s += " " + flagsText(c.Flags)
		} else {
			s += either("", " ()")
		}
		s += " " + literal(c.Data)
		ok = ok && mayFlags(c.Flags) && len(c.Data) <= 4096
	case api.CmdSearch:
		rest.Uid, rest.Keys = false, nil
		l, left := keyText(c.Keys, 0)
		if ok = strings.HasPrefix(l, "(") && c.Keys[0].Kind == api.KeyAnd && len(left) == 0 && len(c.Keys) <= 32; ok {
			s = " " + l[1:len(l)-1]
		}
	case api.CmdFetch:
		rest.Items = nil
		l := itemsText(c.Items, true)
		s = set() + " " + l + since(" (CHANGEDSINCE ", ")")
		ok = ok && l != ""
	case api.CmdStore:
		rest.How, rest.Silent, rest.Flags = 0, false, nil
		s = set() + " " + since("(UNCHANGEDSINCE ", ") ")
		if ok = ok && c.How >= 0 && c.How <= 2 && mayFlags(c.Flags); ok {
			s += []string{"", "+", "-"}[c.How] + "FLAGS"
		}
		if c.Silent {
			s += ".SILENT"
		}
		s += " " + flagsText(c.Flags)
	case api.CmdCopy:
		s = set() + box()
	default:
		ok = false
	}
	return s, rest, ok
}

// said is a command's text, and whether it may be.
func said(c api.Command) (string, bool) {
	s, rest, ok := behind(c)
	rest.Tag, rest.Kind = "", 0
	if !ok || !aTag.MatchString(c.Tag) || !alike(rest, api.Command{}) {
		return "", false
	}
	words := strings.Fields("CAPABILITY NOOP LOGOUT CLOSE EXPUNGE ENABLE LOGIN SELECT EXAMINE CREATE DELETE LIST STATUS APPEND SEARCH FETCH STORE COPY")
	uid := ""
	if c.Uid {
		uid = "UID "
	}
	return c.Tag + " " + uid + words[c.Kind-1] + s, true
}
