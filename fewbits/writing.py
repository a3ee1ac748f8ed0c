"""Programs written as texts."""


def line_of(parts):
    return " ".join([str(part) for part in parts])


def write(program):
    rows, outs = program
    lines = [line_of(row) for row in rows]
    lines.append(line_of(("out",) + outs))
    return "\n".join(lines)
