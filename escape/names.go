package escape

// named is what a reference's name stands for; nothing, if it is none of B2's table.
func named(name string) string {
	if text := namedSign(name); text != "" {
		return text
	}
	if text := namedLetter(name); text != "" {
		return text
	}
	if text := namedFar(name); text != "" {
		return text
	}
	return namedPair(name)
}

// namedSign has the table's first row: signs.
func namedSign(name string) string {
	switch name {
	case "amp":
		return "&"
	case "lt":
		return "<"
	case "gt":
		return ">"
	case "quot":
		return "\""
	case "apos":
		return "'"
	case "nbsp":
		return "\u00a0"
	case "copy":
		return "\u00a9"
	case "reg":
		return "\u00ae"
	case "sect":
		return "\u00a7"
	case "para":
		return "\u00b6"
	case "middot":
		return "\u00b7"
	case "frac12":
		return "\u00bd"
	case "frac34":
		return "\u00be"
	case "times":
		return "\u00d7"
	case "divide":
		return "\u00f7"
	}
	return ""
}

// namedLetter has its second row: letters.
func namedLetter(name string) string {
	switch name {
	case "auml":
		return "\u00e4"
	case "Auml":
		return "\u00c4"
	case "ouml":
		return "\u00f6"
	case "Ouml":
		return "\u00d6"
	case "uuml":
		return "\u00fc"
	case "Uuml":
		return "\u00dc"
	case "szlig":
		return "\u00df"
	case "eacute":
		return "\u00e9"
	case "egrave":
		return "\u00e8"
	case "agrave":
		return "\u00e0"
	case "ccedil":
		return "\u00e7"
	case "ntilde":
		return "\u00f1"
	case "AElig":
		return "\u00c6"
	case "aelig":
		return "\u00e6"
	case "Dcaron":
		return "\u010e"
	}
	return ""
}

// namedFar has its third row: characters from 2000 (base sixteen) on.
func namedFar(name string) string {
	switch name {
	case "hellip":
		return "\u2026"
	case "ndash":
		return "\u2013"
	case "mdash":
		return "\u2014"
	case "lsquo":
		return "\u2018"
	case "rsquo":
		return "\u2019"
	case "ldquo":
		return "\u201c"
	case "rdquo":
		return "\u201d"
	case "bull":
		return "\u2022"
	case "euro":
		return "\u20ac"
	case "trade":
		return "\u2122"
	case "larr":
		return "\u2190"
	case "rarr":
		return "\u2192"
	case "HilbertSpace":
		return "\u210b"
	case "DifferentialD":
		return "\u2146"
	}
	return ""
}

// namedPair has its last row: names that stand for two characters.
func namedPair(name string) string {
	switch name {
	case "ngE":
		return "\u2267\u0338"
	case "nvlt":
		return "<\u20d2"
	}
	return ""
}
