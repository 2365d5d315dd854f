package document

// Show writes a document in its usual form.
func Show(d Document) string {
	var packs []string
	for _, p := range d.Packs {
		text := packText(p)
		packs = append(packs, text)
	}
	// No two packages share their first two bytes, so the order of whole texts is the order of these.
	all := inOrder(packs, "")
	install := constraintsText(d.Install, ",")
	remove := constraintsText(d.Remove, ",")
	upgrade := constraintsText(d.Upgrade, ",")
	return all + "/" + install + "/" + remove + "/" + upgrade
}

func packText(p Pack) string {
	head := string([]byte{p.Name, p.Version})
	mark := markText(p.Mark)
	needs := needsText(p.Needs)
	conflicts := constraintsText(p.Conflicts, ",")
	provides := namesText(p.Provides)
	return head + mark + ":" + needs + ":" + conflicts + ":" + provides + ";"
}

func markText(m Mark) string {
	switch m {
	case MarkNow:
		return "+"
	case MarkVersionStays:
		return "+!"
	case MarkNameStays:
		return "+^"
	}
	return ""
}

func needsText(needs []Need) string {
	var parts []string
	for _, n := range needs {
		text := constraintsText(n.Choices, "|")
		parts = append(parts, text)
	}
	return inOrder(parts, ",")
}

func constraintsText(list []Constraint, between string) string {
	var parts []string
	for _, c := range list {
		text := constraintText(c)
		parts = append(parts, text)
	}
	return inOrder(parts, between)
}

func constraintText(c Constraint) string {
	if c.Sign == 0 {
		return string([]byte{c.Name})
	}
	return string([]byte{c.Name, c.Sign, c.Version})
}

func namesText(names []byte) string {
	var parts []string
	for _, name := range names {
		parts = append(parts, string([]byte{name}))
	}
	return inOrder(parts, ",")
}

// inOrder joins the parts, none of which is empty, in the order of their bytes, each once.
func inOrder(parts []string, between string) string {
	text := ""
	last := ""
	for range parts {
		part := leastAbove(parts, last)
		if part == "" {
			return text
		}
		if last != "" {
			text += between
		}
		text += part
		last = part
	}
	return text
}

// leastAbove answers the first part, in the order of bytes, behind the floor, or the empty text if there is none.
func leastAbove(parts []string, floor string) string {
	least := ""
	for _, part := range parts {
		if part > floor && (least == "" || part < least) {
			least = part
		}
	}
	return least
}
